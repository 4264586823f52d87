"""Differentiation of polynomials, and their pairing."""

from spotheights.checks import check_same
from spotheights.monomials import monomial_factorial, monomials_up_to
from spotheights.polynomials import Polynomial
from spotheights.ratios import Ratio, total


def derivative(polynomial, variable):
    """The first derivative by the variable with this index."""
    return apply_operator(Polynomial.coordinate(polynomial.dimension, variable), polynomial)


def apply_operator(operator, polynomial):
    """The polynomial after each monomial of the operator has differentiated it."""
    check_same(operator, polynomial)
    rules = operator.terms()
    terms = []
    for exponents, number in polynomial.terms():
        for rule, factor in rules:
            left = tuple([high - low for low, high in zip(rule, exponents)])
            if min(left) >= 0:
                times = monomial_factorial(exponents) // monomial_factorial(left)
                terms.append((left, factor * number * times))
    return Polynomial(polynomial.dimension, terms)


def all_derivatives(polynomial):
    """The list of the derivatives of every order that can be other than zero, the polynomial itself first."""
    dimension = polynomial.dimension
    rules = [Polynomial(dimension, [(rule, Ratio(1))]) for rule in monomials_up_to(dimension, polynomial.degree)]
    return [apply_operator(rule, polynomial) for rule in rules]


def pairing(first, second):
    """The sum of factorial times coefficient times coefficient over all monomials."""
    check_same(first, second)
    products = []
    for exponents, number in first.terms():
        products.append(number * second.coefficient(exponents) * monomial_factorial(exponents))
    return total(products)

"""Polynomials with other expressions in the place of their variables."""

from spotheights.checks import check_dimension, check_entries, check_square
from spotheights.errors import WrongDimension
from spotheights.polynomials import Polynomial
from spotheights.ratios import Ratio


def changed(polynomial, matrix):
    """The polynomial of the transposed matrix times the variables."""
    dimension = polynomial.dimension
    check_square(matrix, dimension)
    units = [Polynomial.coordinate(dimension, i) for i in range(dimension)]
    forms = []
    for k in range(dimension):
        form = Polynomial.zero(dimension)
        for i in range(dimension):
            form = form + units[i] * matrix[i][k]
        forms.append(form)
    return _substituted(polynomial, forms)


def shifted(polynomial, by):
    """The polynomial whose value at t + by is the value of the told one at t, for every spot t."""
    dimension = polynomial.dimension
    check_entries(by, dimension)
    forms = []
    for k in range(dimension):
        forms.append(Polynomial.coordinate(dimension, k) - Polynomial.constant(dimension, by[k]))
    return _substituted(polynomial, forms)


def embedded(polynomial, dimension, offset):
    """The polynomial in more variables, with the variable k replaced by the variable k + offset."""
    check_dimension(dimension)
    behind = dimension - polynomial.dimension - offset
    if offset < 0 or behind < 0:
        raise WrongDimension("the variables do not fit into the new dimension")
    terms = []
    for exponents, number in polynomial.terms():
        terms.append(((0,) * offset + exponents + (0,) * behind, number))
    return Polynomial(dimension, terms)


def _substituted(polynomial, forms):
    """The polynomial with each variable replaced by the form at its index, of degree 1 at most."""
    dimension = polynomial.dimension
    products = {(0,) * dimension: Polynomial.constant(dimension, Ratio(1))}
    terms = []
    for exponents, number in polynomial.terms():
        terms.extend((_product(exponents, forms, products) * number).terms())
    return Polynomial(dimension, terms)


def _product(exponents, forms, products):
    """The product of the forms, each to the power of its exponent; kept, since many monomials share a part."""
    if exponents not in products:
        last = max([k for k in range(len(exponents)) if exponents[k] > 0])
        lower = (*exponents[:last], exponents[last] - 1, *exponents[last + 1:])
        products[exponents] = _product(lower, forms, products) * forms[last]
    return products[exponents]

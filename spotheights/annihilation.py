"""Spaces of polynomials that operators take to zero."""

from spotheights.calculus import apply_operator
from spotheights.checks import check_dimension, check_dimension_of
from spotheights.matrices import kernel
from spotheights.monomials import monomials_up_to
from spotheights.polynomials import Polynomial
from spotheights.ratios import Ratio
from spotheights.spaces import Space


def annihilated_space(dimension, operators, *, degree):
    """The space of all polynomials of at most this degree that each of the operators takes to zero."""
    check_dimension(dimension)
    for operator in operators:
        check_dimension_of(operator, dimension)
    places = list(monomials_up_to(dimension, degree))
    monomials = [Polynomial(dimension, [(place, Ratio(1))]) for place in places]
    rows = []
    for operator in operators:
        images = [apply_operator(operator, monomial) for monomial in monomials]
        rows.extend([[image.coefficient(place) for image in images] for place in places])
    found = kernel(rows, width=len(places))
    return Space(dimension, [Polynomial(dimension, list(zip(places, numbers))) for numbers in found])

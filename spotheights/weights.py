"""Weights that estimate a further question from the answers to the questions of a lot."""

from spotheights.certificates import ExactAlways, ExactUpTo
from spotheights.errors import Dependent
from spotheights.fitting import project
from spotheights.leastspace import least_space
from spotheights.matrices import solve
from spotheights.polynomials import Polynomial
from spotheights.ratios import Ratio
from spotheights.series import weighted_part


def weights_for(lot, question):
    """The only weights that are exact for all polynomials of the least space."""
    return _judged(lot, question)[0]


def exact_degree(lot, question):
    """The greatest degree up to which the weights are exact for all polynomials, or None if they always are."""
    part = error_part(lot, question)
    return part.degree - 1 if part else None


def error_part(lot, question):
    """The lowest part of the series of the question minus the weighted sum of those of the lot."""
    weights, always = _judged(lot, question)
    return Polynomial.zero(lot.dimension) if always else _lowest_error(lot, question, weights)


def exactness(lot, question):
    """A certificate that the weights are always exact, or of the degree up to which they are."""
    weights, always = _judged(lot, question)
    if always:
        return ExactAlways(lot, question, weights)
    part = _lowest_error(lot, question, weights)
    # The error part is not in the least space; what its projection leaves of it has only zero answers.
    return ExactUpTo(lot, question, weights, part.degree - 1, part - project(lot, part))


def _judged(lot, question):
    """The weights, and whether they are exact for all polynomials."""
    try:
        lot.with_question(question)
    except Dependent as found:
        return [-number for number in found.weights[:-1]], True
    members = list(least_space(lot))
    rows = [lot.ask(member) for member in members]
    right = [question.ask(member) for member in members]
    return solve(rows, right, width=len(lot))[1], False


def _lowest_error(lot, question, weights):
    """The lowest part of the error of weights that are not always exact."""
    questions = [*lot, question]
    signed = [*[-number for number in weights], Ratio(1)]
    part = Polynomial.zero(lot.dimension)
    degree = 0
    # The questions are independent together, so the error has terms of a degree below their width.
    while not part:
        part = weighted_part(lot.dimension, questions, signed, degree)
        degree = degree + 1
    return part

"""The growth of the least space question by question."""

from spotheights.checks import check_count
from spotheights.fitting import Fitter
from spotheights.polynomials import combination


def newton_basis(lot):
    """For each question the fit, by it and those before it, of the answers 1 to it and 0 to those before it."""
    found = []
    for at in range(len(lot)):
        fitter = Fitter(lot.part(list(range(at + 1))))
        found.append(fitter.cardinal(at))
    return found


def newton_coefficients(lot, answers):
    """The numbers with which the Newton basis adds up to the fit of the answers."""
    check_count(answers, len(lot))
    basis = newton_basis(lot)
    numbers = []
    # The later Newton polynomials have the answer 0 to a question, its own one has 1: its number is what is missing.
    for question, answer in zip(lot, answers):
        so_far = combination(lot.dimension, basis, numbers)
        numbers.append(answer - question.ask(so_far))
    return numbers


def added_degrees(lot):
    """The list of the degrees of the Newton basis."""
    return [polynomial.degree for polynomial in newton_basis(lot)]

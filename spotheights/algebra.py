"""Products of answers: what the questions of a closed lot make of products of polynomials."""

from spotheights.checks import check_index
from spotheights.closure import closure_tables
from spotheights.fitting import Fitter
from spotheights.polynomials import Polynomial
from spotheights.ratios import Ratio


def variable_table(lot, variable):
    """The matrix that takes the answers of each polynomial to those of the variable times it."""
    tables = closure_tables(lot)
    check_index(variable, lot.dimension)
    table = []
    # The answer of the variable times a polynomial is the coordinate of the spot times the answer of the polynomial,
    # plus the answer of the polynomial to the derivative of the operator.
    for at, question in enumerate(lot):
        weights = tables[variable][at]
        table.append([*weights[:at], weights[at] + question.spot[variable], *weights[at + 1:]])
    return table


def multiply_answers(lot, first, second):
    """The answers of the product of any two polynomials with these answers."""
    closure_tables(lot)
    fitter = Fitter(lot)
    return lot.ask(fitter.fit_of(first) * fitter.fit_of(second))


def unit_answers(lot):
    """The answers of the polynomial 1."""
    return lot.ask(Polynomial.constant(lot.dimension, Ratio(1)))

"""Closed lots: at each spot the derivatives of the operators are combinations of the operators."""

from spotheights.calculus import derivative
from spotheights.errors import NotClosed
from spotheights.lots import Lot
from spotheights.matrices import solve
from spotheights.monomials import monomials_up_to
from spotheights.questions import Question
from spotheights.ratios import Ratio
from spotheights.verdicts import Closed, Spoiled
from spotheights.weights import exactness


def judge_closure(lot):
    """A certificate that the lot is closed, or that it is not."""
    questions = list(lot)
    tables = []
    for variable in range(lot.dimension):
        table = []
        for index, question in enumerate(questions):
            operator = derivative(question.operator, variable)
            weights = _combining_weights(questions, question.spot, operator)
            if weights is None:
                # Where all answers are zero, the answer of the variable times a polynomial to the question is the
                # polynomial's answer to the derivative; and that one has a miss, since it depends on no others.
                miss = exactness(lot, Question(question.spot, operator)).miss
                return Spoiled(lot, miss, variable, index)
            table.append(weights)
        tables.append(table)
    return Closed(lot, tables)


def closure_tables(lot):
    """The tables of a closed lot; another one is refused."""
    found = judge_closure(lot)
    if not found.VERDICT:
        raise NotClosed(found)
    return found.tables


def filled(lot):
    """The closed lot with the questions that are missing added at the end."""
    questions = list(lot)
    at = 0
    while at < len(questions):
        spot = questions[at].spot
        for variable in range(lot.dimension):
            operator = derivative(questions[at].operator, variable)
            if _combining_weights(questions, spot, operator) is None:
                questions = [*questions, Question(spot, operator)]
        at = at + 1
    return Lot(lot.dimension, questions)


def _combining_weights(questions, spot, operator):
    """Weights with which the operators that are asked at the spot add up to the told one, or None if there are none."""
    fellows = [k for k, question in enumerate(questions) if question.spot == spot]
    operators = [questions[k].operator for k in fellows]
    degree = max([operator.degree, *[other.degree for other in operators]])
    places = list(monomials_up_to(operator.dimension, degree))
    rows = [[other.coefficient(place) for other in operators] for place in places]
    right = [operator.coefficient(place) for place in places]
    found, numbers = solve(rows, right, width=len(operators))
    if not found:
        return None
    weights = [Ratio(0) for _ in questions]
    for k, number in zip(fellows, numbers):
        weights[k] = number
    return weights

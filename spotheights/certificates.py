"""Certificates: what shows that an answer is right, and can be checked shortly."""

from spotheights.calculus import pairing
from spotheights.polynomials import Polynomial, combination
from spotheights.ratios import Ratio, total
from spotheights.series import vanishes_below, weighted_part

GREATEST_EXACT_DEGREE = 15


class Certificate:
    """What is claimed of a lot; it may be made with wrong claims, and `holds` tells whether they are right."""

    NAME = "certificate"
    VERDICT = True

    def __init__(self, lot):
        self.lot = lot

    def holds(self):
        """Whether all that is claimed is so."""
        return True

    def polynomials(self):
        """The list of the certificate's own polynomials."""
        return []

    def weight_lists(self):
        """The list of the certificate's lists that have, or should have, one number for each question."""
        return []

    def line(self):
        """The name of the certificate, and whether it holds."""
        return f"{self.NAME}: holds" if self.holds() else f"{self.NAME}: does not hold"

    def _goes_together(self, others=()):
        """Whether the polynomials and the others have the dimension of the lot, and the lists of weights its length."""
        dimension = self.lot.dimension
        alike = all([thing.dimension == dimension for thing in [*self.polynomials(), *others]])
        return alike and all([len(weights) == len(self.lot) for weights in self.weight_lists()])


class Member(Certificate):
    """The polynomial belongs to the least space: its parts are the lowest parts of the rows."""

    NAME = "member"
    VERDICT = True

    def __init__(self, lot, polynomial, rows):
        super().__init__(lot)
        self.polynomial = polynomial
        self.rows = [list(row) for row in rows]

    def holds(self):
        """Whether there is a row for each degree, with the polynomial's part there and nothing below it."""
        if not self._goes_together() or len(self.rows) != self.polynomial.degree + 1:
            return False
        dimension = self.lot.dimension
        for degree, row in enumerate(self.rows):
            if weighted_part(dimension, self.lot, row, degree) != self.polynomial.part(degree):
                return False
            if not vanishes_below(dimension, self.lot, row, degree):
                return False
        return True

    def polynomials(self):
        """The polynomial that belongs."""
        return [self.polynomial]

    def weight_lists(self):
        """The rows."""
        return [list(row) for row in self.rows]


class NonMember(Certificate):
    """The polynomial does not belong to the least space: the obstruction forbids it."""

    NAME = "nonmember"
    VERDICT = False

    def __init__(self, lot, polynomial, obstruction):
        super().__init__(lot)
        self.polynomial = polynomial
        self.obstruction = obstruction

    def holds(self):
        """Whether the obstruction has only zero answers and a top part that is not orthogonal to the polynomial."""
        if not self._goes_together() or any(self.lot.ask(self.obstruction)):
            return False
        return bool(pairing(self.obstruction.top_part(), self.polynomial))

    def polynomials(self):
        """The polynomial that does not belong, and the obstruction."""
        return [self.polynomial, self.obstruction]


class LeastDegree(Certificate):
    """No polynomial with these answers has a lower degree than the told one: the weights show it."""

    NAME = "least degree"
    VERDICT = True

    def __init__(self, lot, answers, polynomial, weights):
        super().__init__(lot)
        self.answers = list(answers)
        self.polynomial = polynomial
        self.weights = list(weights)

    def holds(self):
        """Whether the answers are the polynomial's, and the weights see them but no polynomial of a lower degree."""
        if not self._goes_together() or self.lot.ask(self.polynomial) != self.answers:
            return False
        if not self.polynomial:
            return True
        seen = total([weight * answer for weight, answer in zip(self.weights, self.answers)])
        return bool(seen) and vanishes_below(self.lot.dimension, self.lot, self.weights, self.polynomial.degree)

    def polynomials(self):
        """The polynomial of the least degree."""
        return [self.polynomial]

    def weight_lists(self):
        """The answers and the weights."""
        return [list(self.answers), list(self.weights)]


class ExactAlways(Certificate):
    """The weights are exact for all polynomials: the weighted operators make up that of the further question."""

    NAME = "exact always"
    VERDICT = True

    def __init__(self, lot, question, weights):
        super().__init__(lot)
        self.question = question
        self.weights = list(weights)

    def holds(self):
        """Whether the weighted operators add up to the question's at its spot, and to zero at the others."""
        if not self._goes_together([self.question]):
            return False
        for spot in [self.question.spot, *[question.spot for question in self.lot]]:
            wanted = Polynomial.zero(self.lot.dimension)
            if spot == self.question.spot:
                wanted = self.question.operator
            if operator_sum(self.lot, self.weights, spot) != wanted:
                return False
        return True

    def weight_lists(self):
        """The weights."""
        return [list(self.weights)]


class ExactUpTo(Certificate):
    """The weights are exact up to a degree, and the miss shows that no weights are exact beyond it."""

    NAME = "exact up to"
    VERDICT = False

    def __init__(self, lot, question, weights, exact_degree, miss):
        super().__init__(lot)
        self.question = question
        self.weights = list(weights)
        self.exact_degree = exact_degree
        self.miss = miss

    def holds(self):
        """Whether the weights are exact up to the degree, and the miss has the next one and is seen by the question."""
        if not self._goes_together([self.question]):
            return False
        if self.exact_degree < -1 or self.exact_degree > GREATEST_EXACT_DEGREE:
            return False
        if self.miss.degree != self.exact_degree + 1 or any(self.lot.ask(self.miss)):
            return False
        questions = [*self.lot, self.question]
        weights = [*self.weights, Ratio(-1)]
        exact = vanishes_below(self.lot.dimension, questions, weights, self.exact_degree + 1)
        return exact and bool(self.question.ask(self.miss))

    def polynomials(self):
        """The miss."""
        return [self.miss]

    def weight_lists(self):
        """The weights."""
        return [list(self.weights)]


def operator_sum(lot, weights, spot):
    """The sum of the operators that are asked at the spot, each times its weight."""
    asked = [(question.operator, weight) for question, weight in zip(lot, weights) if question.spot == spot]
    return combination(lot.dimension, [operator for operator, _ in asked], [weight for _, weight in asked])

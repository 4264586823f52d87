"""Lots: lists of independent questions that are not too wide."""

from spotheights.calculus import all_derivatives
from spotheights.checks import check_dimension, check_dimension_of, check_entries
from spotheights.checks import check_index, check_same, check_square
from spotheights.errors import BadIndex, Dependent, Singular, TooWide
from spotheights.matrices import determinant, kernel
from spotheights.monomials import monomials_up_to
from spotheights.questions import Question
from spotheights.ratios import Ratio, total
from spotheights.spaces import Space
from spotheights.substitution import changed, embedded

GREATEST_WIDTH = 8


class Lot:
    """A list of independent questions of one dimension with a width of at most 8."""

    def __init__(self, dimension, questions=()):
        check_dimension(dimension)
        kept = []
        width = 0
        for question in questions:
            check_dimension_of(question, dimension)
            _check_independent(kept, question)
            width = width + _added_width(kept, question)
            _check_width(width)
            kept = [*kept, question]
        self.dimension = dimension
        self.width = width
        self.plain = all([question.operator.degree == 0 for question in kept])
        self._questions = kept

    @classmethod
    def empty(cls, dimension):
        """The lot without questions."""
        return cls(dimension, [])

    @classmethod
    def heights(cls, dimension, spots):
        """The lot of the questions for the heights at the spots."""
        check_dimension(dimension)
        questions = []
        for spot in spots:
            check_entries(spot, dimension)
            questions.append(Question.height(spot))
        return cls(dimension, questions)

    def question_at(self, index):
        """The question with this index."""
        check_index(index, len(self._questions))
        return self._questions[index]

    def ask(self, polynomial):
        """The list of the answers of the polynomial."""
        check_same(self, polynomial)
        return [question.ask(polynomial) for question in self._questions]

    def table(self, monomials):
        """For each question the list of the answers of the monomials."""
        for exponents in monomials:
            check_entries(exponents, self.dimension)
        return [question.answers_to(monomials) for question in self._questions]

    def with_question(self, question):
        """The lot with one more question at the end."""
        return Lot(self.dimension, [*self._questions, question])

    def part(self, indexes):
        """The lot of the questions at these indexes, in the order of the list."""
        for at, index in enumerate(indexes):
            check_index(index, len(self._questions))
            if index in indexes[:at]:
                raise BadIndex("the index is repeated")
        return Lot(self.dimension, [self._questions[index] for index in indexes])

    def shifted(self, by):
        """The lot with each spot moved by these numbers."""
        check_entries(by, self.dimension)
        questions = []
        for question in self._questions:
            spot = [coordinate + step for coordinate, step in zip(question.spot, by)]
            questions.append(Question(spot, question.operator))
        return Lot(self.dimension, questions)

    def changed(self, matrix):
        """The lot with each spot t moved to matrix times t, and the operators changed accordingly."""
        check_square(matrix, self.dimension)
        if not determinant(matrix):
            raise Singular("the determinant is zero")
        questions = []
        for question in self._questions:
            spot = [total([number * step for number, step in zip(row, question.spot)]) for row in matrix]
            questions.append(Question(spot, changed(question.operator, matrix)))
        return Lot(self.dimension, questions)

    def __len__(self):
        return len(self._questions)

    def __iter__(self):
        return iter(self._questions)

    def __eq__(self, other):
        return isinstance(other, Lot) and self.dimension == other.dimension and list(self) == list(other)

    def __add__(self, other):
        if not isinstance(other, Lot):
            return NotImplemented
        check_same(self, other)
        return Lot(self.dimension, [*self._questions, *list(other)])

    def __mul__(self, other):
        if not isinstance(other, Lot):
            return NotImplemented
        dimension = self.dimension + other.dimension
        check_dimension(dimension)
        _check_width(self.width * other.width)
        return Lot(dimension, [_joined(first, second) for first in self._questions for second in other])


def _check_width(width):
    """Refuse a width above 8."""
    if width > GREATEST_WIDTH:
        raise TooWide("the width is above 8")


def _check_independent(questions, question):
    """Refuse a question that depends on the independent ones before it."""
    asked = [*questions, question]
    fellows = [k for k, other in enumerate(asked) if other.spot == question.spot]
    operators = [asked[k].operator for k in fellows]
    degree = max([operator.degree for operator in operators])
    places = list(monomials_up_to(question.dimension, degree))
    rows = [[operator.coefficient(place) for operator in operators] for place in places]
    found = kernel(rows, width=len(operators))
    # Those before are independent, so only the last column can be free.
    if found:
        weights = [Ratio(0) for _ in asked]
        for k, number in zip(fellows, found[0]):
            weights[k] = number
        raise Dependent(weights)


def _added_width(questions, question):
    """By how much the question makes the width of those before it greater."""
    before = [other.operator for other in questions if other.spot == question.spot]
    return _closed_size([*before, question.operator]) - _closed_size(before)


def _closed_size(operators):
    """The dimension of the space of all combinations of the operators and their derivatives of every order."""
    derivatives = [derivative for operator in operators for derivative in all_derivatives(operator)]
    return len(Space(derivatives[0].dimension, derivatives)) if derivatives else 0


def _joined(first, second):
    """The question of a product for one question of each factor."""
    dimension = first.dimension + second.dimension
    lower = embedded(first.operator, dimension, 0)
    upper = embedded(second.operator, dimension, first.dimension)
    return Question([*first.spot, *second.spot], lower * upper)

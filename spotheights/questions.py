"""Questions: what is asked of a polynomial at a spot."""

from spotheights.calculus import apply_operator
from spotheights.checks import check_dimension, check_same
from spotheights.errors import TooLarge, WrongDimension, ZeroOperator
from spotheights.monomials import monomial_factorial, monomials_up_to
from spotheights.polynomials import Polynomial
from spotheights.ratios import Ratio, total

LARGEST = 999
GREATEST_OPERATOR_DEGREE = 4


class Question:
    """A spot and an operator: the value at the spot of what the operator makes of a polynomial."""

    def __init__(self, spot, operator):
        self.spot = _checked_spot(spot)
        self.dimension = len(self.spot)
        if operator.dimension != self.dimension:
            raise WrongDimension("the operator has another dimension than the spot")
        if not operator:
            raise ZeroOperator("the operator is zero")
        if operator.degree > GREATEST_OPERATOR_DEGREE:
            raise TooLarge("the degree of the operator is above 4")
        self.operator = operator

    @classmethod
    def height(cls, spot):
        """The question for the height at the spot."""
        return cls(spot, Polynomial.constant(len(spot), Ratio(1)))

    @classmethod
    def slope(cls, spot, index):
        """The question for the slope along the variable with this index."""
        place = _checked_spot(spot)
        return cls(place, Polynomial.coordinate(len(place), index))

    def ask(self, polynomial):
        """The answer of the polynomial."""
        check_same(self, polynomial)
        return total([number * self._monomial_answer(exponents) for exponents, number in polynomial.terms()])

    def series(self, degree):
        """The polynomial whose pairing with each polynomial of at most this degree is the answer."""
        terms = []
        for exponents in monomials_up_to(self.dimension, degree):
            answer = self._monomial_answer(exponents)
            terms.append((exponents, answer.over(monomial_factorial(exponents))))
        return Polynomial(self.dimension, terms)

    def _monomial_answer(self, exponents):
        return apply_operator(self.operator, Polynomial.monomial(exponents)).value_at(self.spot)

    def __eq__(self, other):
        return isinstance(other, Question) and self.spot == other.spot and self.operator == other.operator

    def __str__(self):
        return " ".join(_written_words(self.spot, str(self.operator)))


def _checked_spot(spot):
    """The spot as a tuple, if it is the spot of a question."""
    check_dimension(len(spot))
    for coordinate in spot:
        if abs(coordinate.top) > LARGEST or coordinate.bottom > LARGEST:
            raise TooLarge("a coordinate has a top or a bottom above 999")
    return tuple(spot)


def _written_words(spot, operator):
    """The words of the written form of a question."""
    words = ["at", *[str(coordinate) for coordinate in spot]]
    if operator != "1":
        words.append("ask")
        words.append(operator)
    return words

"""Questions: what is asked of a polynomial at a spot."""

from spotheights.checks import check_dimension, check_same
from spotheights.errors import TooLarge, WrongDimension, ZeroOperator
from spotheights.monomials import monomial_factorial, monomials_up_to
from spotheights.polynomials import Polynomial
from spotheights.ratios import Ratio, total

LARGEST = 999
GREATEST_OPERATOR_DEGREE = 4


class Question:
    """A spot and an operator: the value at the spot of what the operator makes of a polynomial."""

    def __init__(self, spot, operator):
        self.spot = _checked_spot(spot)
        self.dimension = len(self.spot)
        if operator.dimension != self.dimension:
            raise WrongDimension("the operator has another dimension than the spot")
        if not operator:
            raise ZeroOperator("the operator is zero")
        if operator.degree > GREATEST_OPERATOR_DEGREE:
            raise TooLarge("the degree of the operator is above 4")
        self.operator = operator

    @classmethod
    def height(cls, spot):
        """The question for the height at the spot."""
        return cls(spot, Polynomial.constant(len(spot), Ratio(1)))

    @classmethod
    def slope(cls, spot, index):
        """The question for the slope along the variable with this index."""
        place = _checked_spot(spot)
        return cls(place, Polynomial.coordinate(len(place), index))

    def ask(self, polynomial):
        """The answer of the polynomial."""
        check_same(self, polynomial)
        pairs = polynomial.terms()
        answers = self.answers_to([pair[0] for pair in pairs])
        return total([pair[1] * answer for pair, answer in zip(pairs, answers)])

    def answers_to(self, monomials):
        """The list of the answers of the monomials."""
        greatest = max([exponent for exponents in monomials for exponent in exponents], default=0)
        powers = [_power_pairs(coordinate, greatest) for coordinate in self.spot]
        rules = self.operator.terms()
        return [_monomial_answer(rules, exponents, powers) for exponents in monomials]

    def series(self, degree):
        """The polynomial whose pairing with each polynomial of at most this degree is the answer."""
        places = list(monomials_up_to(self.dimension, degree))
        answers = self.answers_to(places)
        terms = [(place, answer.over(monomial_factorial(place))) for place, answer in zip(places, answers)]
        return Polynomial(self.dimension, terms)

    def __eq__(self, other):
        return isinstance(other, Question) and self.spot == other.spot and self.operator == other.operator

    def __str__(self):
        return " ".join(_written_words(self.spot, str(self.operator)))


def _checked_spot(spot):
    """The spot as a tuple, if it is the spot of a question."""
    check_dimension(len(spot))
    for coordinate in spot:
        if abs(coordinate.top) > LARGEST or coordinate.bottom > LARGEST:
            raise TooLarge("a coordinate has a top or a bottom above 999")
    return tuple(spot)


def _power_pairs(number, greatest):
    """The tops and the bottoms of the powers of the number, as pairs, from the power 0 up to the greatest one."""
    pairs = [(1, 1)]
    for _ in range(greatest):
        top, bottom = pairs[-1]
        pairs.append((top * number.top, bottom * number.bottom))
    return pairs


def _monomial_answer(rules, exponents, powers):
    """The value of what the terms of an operator make of a monomial, where the coordinates have these powers."""
    values = []
    for rule, factor in rules:
        left = [high - low for low, high in zip(rule, exponents)]
        if min(left) >= 0:
            top = factor.top * (monomial_factorial(exponents) // monomial_factorial(left))
            bottom = factor.bottom
            for row, exponent in zip(powers, left):
                top = top * row[exponent][0]
                bottom = bottom * row[exponent][1]
            values.append(Ratio(top, bottom))
    return total(values)


def _written_words(spot, operator):
    """The words of the written form of a question."""
    words = ["at", *[str(coordinate) for coordinate in spot]]
    if operator != "1":
        words.append("ask")
        words.append(operator)
    return words

"""What several tests share."""

import unittest
from fractions import Fraction
from itertools import permutations

from spotheights.closure import filled
from spotheights.errors import Dependent, TooWide
from spotheights.lots import Lot
from spotheights.monomials import monomials_up_to
from spotheights.orders import Order
from spotheights.polynomials import Polynomial
from spotheights.polytext import read_polynomial
from spotheights.questions import Question
from spotheights.questiontext import read_question
from spotheights.ratios import Ratio
from spotheights.spaces import Space


def ratios(text):
    """The numbers whose written forms stand in the text, separated by blanks."""
    return [Ratio.read(word) for word in text.split()]


def table(*texts):
    """Rows of numbers, one row for each text."""
    return [ratios(text) for text in texts]


def texts(things):
    """The written forms of the things."""
    return [str(thing) for thing in things]


def poly(text, dimension=2):
    return read_polynomial(text, dimension)


def ask(text, dimension=2):
    return read_question(text, dimension)


def lot(*questions, dimension=2):
    """The lot of the questions with these written forms."""
    return Lot(dimension, [read_question(text, dimension) for text in questions])


def space(*polynomials, dimension=2):
    """The space of all combinations of the polynomials with these written forms."""
    return Space(dimension, [read_polynomial(text, dimension) for text in polynomials])


def mixed(polynomials, numbers, dimension):
    """The sum of the polynomials, each times its number."""
    found = Polynomial.zero(dimension)
    for polynomial, number in zip(polynomials, numbers):
        found = found + polynomial * number
    return found


def weighted(numbers, weights):
    return sum([number * weight for number, weight in zip(numbers, weights)], Ratio(0))


def independent(rows):
    """How many of the rows, lists of Python's own fractions, are independent."""
    kept = []
    for row in rows:
        for at, other in kept:
            row = [a - row[at] * b for a, b in zip(row, other)]
        found = [k for k, number in enumerate(row) if number]
        if found:
            kept.append((found[0], [number / row[found[0]] for number in row]))
    return len(kept)


def span_size(polynomials):
    """The dimension of the space of all combinations of the polynomials, by Python's own fractions."""
    places = sorted({place for polynomial in polynomials for place, _ in polynomial.terms()})
    return independent([[fraction(polynomial.coefficient(place)) for place in places] for polynomial in polynomials])


def fraction(number):
    return Fraction(number.top, number.bottom)


def ratio(value):
    value = Fraction(value)
    return Ratio(value.numerator, value.denominator)


class Checks(unittest.TestCase):
    """A test case that asks certificates whether they hold."""

    def assert_holds(self, certificate, wanted=True):
        self.assertIs(certificate.holds(), wanted)
        self.assertEqual(certificate.line(), certificate.NAME + (": holds" if wanted else ": does not hold"))

    def assert_fails(self, certificate):
        self.assert_holds(certificate, False)


class Drawn:
    """Numbers that look like random ones and are the same in each run."""

    def __init__(self, seed):
        self.state = seed

    def integer(self, low, high):
        self.state = (self.state * 6364136223846793005 + 1442695040888963407) % 2 ** 64
        return low + (self.state >> 20) % (high - low + 1)

    def ratio(self, size=20):
        return Ratio(self.integer(-size, size), self.integer(1, size))

    def row(self, width, size=20):
        return [self.ratio(size) for _ in range(width)]

    def rows(self, height, width, size=20):
        return [self.row(width, size) for _ in range(height)]

    def polynomial(self, dimension, degree, many=6, size=20):
        places = list(monomials_up_to(dimension, degree))
        return Polynomial(dimension, [(places[self.integer(0, len(places) - 1)], self.ratio(size)) for _ in range(many)])

    def spot(self, dimension, size=5):
        return [Ratio(self.integer(-size, size), self.integer(1, 3)) for _ in range(dimension)]

    def lot(self, dimension, many=8):
        """A lot with up to so many questions, for heights and derivatives of all kinds."""
        found = Lot.empty(dimension)
        spots = [self.spot(dimension) for _ in range(4)]
        for _ in range(3 * many):
            if len(found) < many:
                spot = spots[self.integer(0, 3)] if self.integer(0, 2) else self.spot(dimension)
                degree = self.integer(0, 2) if self.integer(0, 2) else 0
                operator = self.polynomial(dimension, degree, self.integer(1, 3), 4)
                if operator:
                    found = grown(found, Question(spot, operator))
        return found


def grown(found, question):
    """The lot with one more question if that makes a lot, otherwise the lot itself."""
    try:
        return found.with_question(question)
    except (Dependent, TooWide):
        return found


# Lots of many kinds: heights alone and derivatives, in general and in special places, narrow and as wide as can be.
PLAIN_TEXTS = [
    (1, []), (1, ["at 7"]), (1, ["at 0", "at 1", "at -1/2"]), (1, [f"at {k}/7" for k in (1, 2, 3, 4, 5, 6, 8, 9)]),
    (2, []), (2, ["at 3 -5"]), (2, ["at 0 0", "at 1 1", "at 2 2"]), (2, ["at 0 0", "at 1 0", "at 0 1"]),
    (2, ["at 999 -999", "at 1/999 999", "at -999 1/999", "at 0 0"]),
    (2, ["at 0 0", "at 1 0", "at 2 0", "at 0 1", "at 1 1", "at 0 2", "at 0 3", "at 3 0"]),
    (2, ["at 1 0", "at -1 0", "at 0 1", "at 0 -1", "at 3/5 4/5", "at -3/5 4/5", "at 3/5 -4/5", "at -3/5 -4/5"]),
    (3, []), (3, ["at 1 2 3"]), (3, ["at 0 0 0", "at 1 1 1", "at 2 2 2", "at -1/3 -1/3 -1/3"]),
    (3, ["at 0 0 0", "at 1 0 0", "at 0 1 0", "at 0 0 1", "at 1 1 0", "at 1 0 1", "at 0 1 1", "at 1 1 1"]),
    (3, ["at 1 2 3", "at -1/2 5 0", "at 7 7 1/7", "at 0 0 4", "at 2/3 -1 1"]),
]
OTHER_TEXTS = [
    (1, ["at 0 ask x"]), (1, ["at 0 ask x^4"]), (1, ["at 2 ask 1 + x"]), (1, ["at 2", "at 2 ask x"]),
    (1, ["at 0", "at 0 ask x", "at 0 ask x^2", "at 1 ask x^4"]), (1, ["at 1 ask x^3", "at -1 ask x^3"]),
    (1, ["at 0 ask 1 - x", "at 1 ask 1 - x", "at 2 ask 1 - x", "at 3 ask 1 - x"]),
    (2, ["at 1 0 ask x y"]), (2, ["at 0 0 ask x^2 - y^2", "at 1 1"]), (2, ["at 0 0 ask x", "at 0 1 ask y"]),
    (2, ["at 0 0", "at 0 0 ask x", "at 0 0 ask y", "at 1 2", "at 1 2 ask x", "at 1 2 ask y"]),
    (2, ["at 0 0", "at 0 0 ask x + y", "at 0 0 ask x^2 + 2 x y + y^2", "at 3 1", "at 4 2"]),
    (2, ["at 5 -2 ask 1 + x^2", "at 5 -2 ask x", "at 1/2 0 ask y^3"]), (2, ["at 0 0 ask x + y^2", "at 1/2 1/3 ask 2"]),
    (3, ["at 0 0 0 ask x y z"]), (3, ["at 1 0 0", "at 1 0 0 ask z", "at 1 0 0 ask x + z^2", "at 0 0 0 ask -1/3"]),
    (3, ["at 0 0 0 ask x", "at 0 0 0 ask y", "at 0 0 0 ask z", "at 0 0 0"]), (3, ["at 0 0 1 ask x + y + z^3"]),
]


def plain_lots():
    return [lot(*questions, dimension=dimension) for dimension, questions in PLAIN_TEXTS]


def many_lots():
    """Lots of all kinds, the told ones and drawn ones."""
    told = [lot(*questions, dimension=dimension) for dimension, questions in OTHER_TEXTS]
    drawn = Drawn(101)
    return plain_lots() + told + [drawn.lot(dimension, many) for dimension in [1, 2, 3] for many in [2, 3, 5, 8]]


def closed_lots():
    """Closed lots of all kinds: the plain ones, and the others filled."""
    return plain_lots() + [filled(found) for found in many_lots() if not found.plain]


def open_lots():
    """Lots that are not closed."""
    return [found for found in many_lots() if len(filled(found)) > len(found)]


def all_orders(dimension, kinds=("degree", "variables")):
    return [Order(kind, ranking) for kind in kinds for ranking in permutations(range(dimension))]


def times_variable(polynomial, variable):
    return Polynomial.coordinate(polynomial.dimension, variable) * polynomial

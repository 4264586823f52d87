"""What several tests share."""

from fractions import Fraction

from spotheights.polytext import read_polynomial
from spotheights.ratios import Ratio


def ratios(text):
    """The numbers whose written forms stand in the text, separated by blanks."""
    return [Ratio.read(word) for word in text.split()]


def table(*texts):
    """Rows of numbers, one row for each text."""
    return [ratios(text) for text in texts]


def texts(things):
    """The written forms of the things."""
    return [str(thing) for thing in things]


def poly(text, dimension=2):
    return read_polynomial(text, dimension)


def fraction(number):
    return Fraction(number.top, number.bottom)


def ratio(value):
    value = Fraction(value)
    return Ratio(value.numerator, value.denominator)


class Drawn:
    """Numbers that look like random ones and are the same in each run."""

    def __init__(self, seed):
        self.state = seed

    def integer(self, low, high):
        self.state = (self.state * 6364136223846793005 + 1442695040888963407) % 2 ** 64
        return low + (self.state >> 20) % (high - low + 1)

    def ratio(self, size=20):
        return Ratio(self.integer(-size, size), self.integer(1, size))

    def row(self, width, size=20):
        return [self.ratio(size) for _ in range(width)]

    def rows(self, height, width, size=20):
        return [self.row(width, size) for _ in range(height)]

    def polynomial(self, dimension, degree, many=6, size=20):
        from spotheights.monomials import monomials_up_to
        from spotheights.polynomials import Polynomial
        places = list(monomials_up_to(dimension, degree))
        return Polynomial(dimension, [(places[self.integer(0, len(places) - 1)], self.ratio(size)) for _ in range(many)])

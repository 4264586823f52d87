"""Polynomials in 1, 2 or 3 variables with exact fractions as coefficients."""

from spotheights.checks import GREATEST_DEGREE, check_dimension, check_entries
from spotheights.checks import check_exponents, check_index, check_same
from spotheights.errors import TooLarge
from spotheights.monomials import standard_place
from spotheights.ratios import Ratio, total

VARIABLES = ("x", "y", "z")


class Polynomial:
    """A sum of terms, each a nonzero number times a monomial."""

    def __init__(self, dimension, terms=()):
        check_dimension(dimension)
        found = {}
        for exponents, number in terms:
            check_exponents(exponents, dimension)
            found.setdefault(tuple(exponents), []).append(number)
        pairs = [(place, total(found[place])) for place in sorted(list(found), key=standard_place)]
        self.dimension = dimension
        self._pairs = [pair for pair in pairs if pair[1]]
        self._numbers = {place: number for place, number in self._pairs}

    @classmethod
    def zero(cls, dimension):
        """The zero polynomial."""
        return cls(dimension, [])

    @classmethod
    def constant(cls, dimension, number):
        """The polynomial that is this number everywhere."""
        check_dimension(dimension)
        return cls(dimension, [((0,) * dimension, number)])

    @classmethod
    def coordinate(cls, dimension, index):
        """The variable with this index."""
        check_dimension(dimension)
        check_index(index, dimension)
        return cls(dimension, [(tuple([int(k == index) for k in range(dimension)]), Ratio(1))])

    @classmethod
    def monomial(cls, exponents):
        """The monomial with these exponents."""
        return cls(len(exponents), [(exponents, Ratio(1))])

    @property
    def degree(self):
        """The greatest degree of a term, -1 for the zero polynomial."""
        return sum(self._pairs[-1][0]) if self._pairs else -1

    @property
    def low_degree(self):
        """The least degree of a term, -1 for the zero polynomial."""
        return sum(self._pairs[0][0]) if self._pairs else -1

    def terms(self):
        """The list of pairs of exponents and a nonzero number, in the standard order."""
        return list(self._pairs)

    def coefficient(self, exponents):
        """The number at these exponents, zero where there is no term."""
        check_entries(exponents, self.dimension)
        return self._numbers.get(tuple(exponents), Ratio(0))

    def head(self):
        """The exponents of the last monomial in the standard order, None for the zero polynomial."""
        return self._pairs[-1][0] if self._pairs else None

    def part(self, degree):
        """The terms of this degree."""
        return Polynomial(self.dimension, [pair for pair in self._pairs if sum(pair[0]) == degree])

    def top_part(self):
        """The part of the greatest degree."""
        return self.part(self.degree)

    def lowest_part(self):
        """The part of the least degree that has terms."""
        return self.part(self.low_degree)

    def is_homogeneous(self):
        """Whether all terms have one degree."""
        return self.degree == self.low_degree

    def value_at(self, spot):
        """The value at a spot."""
        check_entries(spot, self.dimension)
        powers = [_powers(coordinate, self.degree) for coordinate in spot]
        values = []
        for exponents, number in self._pairs:
            value = number
            for row, exponent in zip(powers, exponents):
                if exponent > 0:
                    value = value * row[exponent]
            values.append(value)
        return total(values)

    def __call__(self, spot):
        # Methods that an operator may run cannot call an object, so value_at does the work for them too.
        return self.value_at(spot)

    def __add__(self, other):
        if not isinstance(other, Polynomial):
            return NotImplemented
        check_same(self, other)
        return Polynomial(self.dimension, [*self._pairs, *other.terms()])

    def __sub__(self, other):
        if not isinstance(other, Polynomial):
            return NotImplemented
        return self + -other

    def __neg__(self):
        return self * -1

    def __mul__(self, other):
        if isinstance(other, int) or isinstance(other, Ratio):
            return Polynomial(self.dimension, [(exponents, number * other) for exponents, number in self._pairs])
        if not isinstance(other, Polynomial):
            return NotImplemented
        check_same(self, other)
        if self._pairs and other and self.degree + other.degree > GREATEST_DEGREE:
            raise TooLarge("the degree of the product is above 16")
        return Polynomial(self.dimension, _product_terms(self._pairs, other.terms()))

    def __rmul__(self, other):
        return self * other

    def __eq__(self, other):
        return isinstance(other, Polynomial) and self.dimension == other.dimension and self.terms() == other.terms()

    def __bool__(self):
        return bool(self._pairs)

    def __str__(self):
        return "".join(_written_pieces(self._pairs))


def combination(dimension, polynomials, numbers):
    """The sum of polynomials of this dimension, each times its number."""
    terms = []
    for polynomial, number in zip(polynomials, numbers):
        terms.extend([(exponents, factor * number) for exponents, factor in polynomial.terms()])
    return Polynomial(dimension, terms)


def _powers(number, degree):
    """The powers of the number from the power 0 up to this degree."""
    powers = [Ratio(1)]
    for _ in range(degree):
        powers.append(powers[-1] * number)
    return powers


def _product_terms(first, second):
    """All products of a term of the first list and one of the second."""
    products = []
    for low, number in first:
        for high, factor in second:
            products.append((tuple([one + more for one, more in zip(low, high)]), number * factor))
    return products


def _written_pieces(terms):
    """The texts that make up the written form of the sum of the terms."""
    if not terms:
        return ["0"]
    pieces = []
    for exponents, number in terms:
        negative = number.sign() < 0
        if pieces:
            pieces.append(" - " if negative else " + ")
        elif negative:
            pieces.append("-")
        pieces.append(_written_size(abs(number), _written_monomial(exponents)))
    return pieces


def _written_size(number, monomial):
    """A term without its sign."""
    if monomial == "":
        return str(number)
    return monomial if number == 1 else f"{number} {monomial}"


def _written_monomial(exponents):
    """The powers of the variables; nothing for the monomial 1."""
    powers = []
    for name, exponent in zip(VARIABLES, exponents):
        if exponent == 1:
            powers.append(name)
        elif exponent > 1:
            powers.append(f"{name}^{exponent}")
    return " ".join(powers)

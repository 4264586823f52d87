"""Spaces of polynomials, kept by their canonical bases."""

from spotheights.calculus import pairing
from spotheights.checks import check_dimension, check_dimension_of, check_same
from spotheights.matrices import common_bottom, echelon, solve
from spotheights.monomials import standard_place
from spotheights.polynomials import Polynomial, combination
from spotheights.ratios import Ratio
from spotheights.substitution import embedded


class Space:
    """All combinations of finitely many polynomials of one dimension."""

    def __init__(self, dimension, polynomials=()):
        check_dimension(dimension)
        for polynomial in polynomials:
            check_dimension_of(polynomial, dimension)
        self.dimension = dimension
        self._members = _canonical_basis(dimension, polynomials)

    @property
    def degree(self):
        """The greatest degree of a member of the basis, -1 for the zero space."""
        return self._members[-1].degree if self._members else -1

    def counts(self):
        """The list of the numbers of members of the degrees 0, 1, 2, .. up to the degree of the space."""
        degrees = [member.degree for member in self._members]
        return [degrees.count(degree) for degree in range(self.degree + 1)]

    def up_to(self, degree):
        """The space of its polynomials of at most this degree."""
        return Space(self.dimension, [member for member in self._members if member.degree <= degree])

    def coordinates(self, polynomial):
        """The numbers with which the basis adds up to the polynomial, or None if there are none."""
        check_same(self, polynomial)
        # No other member has a term at a member's head, so the number there is the member's coordinate.
        numbers = [polynomial.coefficient(member.head()) for member in self._members]
        return numbers if combination(self.dimension, self._members, numbers) == polynomial else None

    def projection(self, polynomial):
        """The polynomial of the space that differs from the told one by one with only zero pairings with the space."""
        check_same(self, polynomial)
        # Pairings of polynomials with integers are integers, which are far faster than fractions with long bottoms.
        spanning = [_without_bottoms(member) for member in self._members]
        rows = [[pairing(member, other) for other in spanning] for member in spanning]
        right = [pairing(member, polynomial) for member in spanning]
        return combination(self.dimension, spanning, solve(rows, right, width=len(rows))[1])

    def __len__(self):
        return len(self._members)

    def __iter__(self):
        return iter(self._members)

    def __contains__(self, polynomial):
        return polynomial.dimension == self.dimension and self.coordinates(polynomial) is not None

    def __eq__(self, other):
        return isinstance(other, Space) and self.dimension == other.dimension and list(self) == list(other)

    def __add__(self, other):
        if not isinstance(other, Space):
            return NotImplemented
        check_same(self, other)
        return Space(self.dimension, [*self._members, *list(other)])

    def __mul__(self, other):
        if not isinstance(other, Space):
            return NotImplemented
        dimension = self.dimension + other.dimension
        check_dimension(dimension)
        lower = [embedded(member, dimension, 0) for member in self._members]
        upper = [embedded(member, dimension, self.dimension) for member in other]
        return Space(dimension, [first * second for first in lower for second in upper])


def _canonical_basis(dimension, polynomials):
    """The canonical basis of the combinations of the polynomials."""
    # The last monomials come first, so that the pivots of the reduced rows are the heads.
    places = _places(polynomials)
    rows = [[polynomial.coefficient(place) for place in places] for polynomial in polynomials]
    members = []
    reduced, pivots, _ = echelon(rows, len(places))
    for row, pivot in zip(reduced, pivots):
        terms = [(place, Ratio(number, row[pivot])) for place, number in zip(places, row) if number != 0]
        members.append(Polynomial(dimension, terms))
    return members[::-1]


def _without_bottoms(polynomial):
    """The least multiple of the polynomial whose numbers are all integers."""
    return polynomial * common_bottom([number for _, number in polynomial.terms()])


def _places(polynomials):
    """The monomials of all terms of the polynomials, each once, from the last to the first in the standard order."""
    found = {}
    for polynomial in polynomials:
        for exponents, _ in polynomial.terms():
            found[exponents] = True
    return sorted(list(found), key=standard_place, reverse=True)

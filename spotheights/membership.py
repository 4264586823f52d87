"""Which polynomials belong to the least space of a lot."""

from spotheights.certificates import Member, NonMember
from spotheights.checks import check_same
from spotheights.fitting import project
from spotheights.leastspace import lowest_parts
from spotheights.matrices import row_sum
from spotheights.spaces import Space


def belonging(lot, polynomial):
    """A certificate that the polynomial belongs to the least space, or that it does not."""
    check_same(lot, polynomial)
    pairs = lowest_parts(lot)
    space = Space(lot.dimension, [pair[0] for pair in pairs])
    coordinates = space.coordinates(polynomial)
    if coordinates is None:
        return NonMember(lot, polynomial, _obstruction(lot, space, polynomial))
    rows = []
    for degree in range(polynomial.degree + 1):
        chosen = [k for k in range(len(pairs)) if pairs[k][0].degree == degree]
        numbers = [coordinates[k] for k in chosen]
        rows.append(row_sum(numbers, [pairs[k][1] for k in chosen], width=len(lot)))
    return Member(lot, polynomial, rows)


def _obstruction(lot, space, polynomial):
    """A polynomial with all answers zero whose top part is not orthogonal to the polynomial outside the space."""
    parts = [polynomial.part(degree) for degree in range(polynomial.degree + 1)]
    # The space is graded, so a part is outside. The top part of what its projection by the lot leaves of it is
    # what its orthogonal projection onto the space leaves of it.
    stray = [part for part in parts if part not in space][0]
    return stray - project(lot, stray)

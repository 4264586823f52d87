"""What can be told of a space and made from it."""

from spotheights.calculus import derivative
from spotheights.checks import check_square
from spotheights.errors import NotClosed
from spotheights.spaces import Space
from spotheights.substitution import changed


def is_graded(space):
    """Whether all parts of the polynomials of the space belong to it."""
    # The basis of a graded space is made up of those of its single degrees.
    return all([member.is_homogeneous() for member in space])


def is_closed(space):
    """Whether all first derivatives of the polynomials of the space belong to it."""
    for polynomial in _first_derivatives(space):
        if polynomial not in space:
            return False
    return True


def derived_space(space):
    """The space of all combinations of first derivatives of polynomials of the space."""
    return Space(space.dimension, _first_derivatives(space))


def changed_space(space, matrix):
    """The space of its polynomials with their variables replaced as `changed` does it."""
    check_square(matrix, space.dimension)
    return Space(space.dimension, [changed(member, matrix) for member in space])


def generators(space):
    """Members of the basis, as few as possible, that make up the space together with all their derivatives."""
    if not is_closed(space):
        raise NotClosed(None)
    reached = derived_space(space)
    taken = []
    for member in space:
        if member not in reached:
            taken.append(member)
            reached = reached + Space(space.dimension, [member])
    return taken


def _first_derivatives(space):
    """The first derivatives of the members of the basis."""
    return [derivative(member, variable) for member in space for variable in range(space.dimension)]

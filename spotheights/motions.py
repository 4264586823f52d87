"""What becomes of fits when the spots are moved."""

from spotheights.calculus import derivative
from spotheights.checks import check_dimension, check_square
from spotheights.errors import Singular
from spotheights.leastspace import least_space
from spotheights.lots import Lot
from spotheights.matrices import determinant
from spotheights.ratios import Ratio, total
from spotheights.substitution import changed


def follows_shifts(lot):
    """Whether the fits follow every shift."""
    return stray_member(lot) is None


def stray_member(lot):
    """The first member of the least space with a first derivative outside, and the variable for it, or None."""
    space = least_space(lot)
    for member in space:
        for variable in range(lot.dimension):
            if derivative(member, variable) not in space:
                return member, variable
    return None


def follows_change(lot, matrix):
    """Whether the fits follow the matrix."""
    return stray_change(lot, matrix) is None


def stray_change(lot, matrix):
    """The first member of the least space that the transposed matrix times the matrix takes out of it, or None."""
    square = _transposed_times(matrix, lot.dimension)
    space = least_space(lot)
    for member in space:
        if changed(member, square) not in space:
            return member
    return None


def is_similarity(matrix):
    """Whether the transposed matrix times the matrix is a multiple of the unit matrix."""
    size = len(matrix)
    check_dimension(size)
    square = _transposed_times(matrix, size)
    return square == [[square[0][0] * int(i == k) for k in range(size)] for i in range(size)]


def stray_lot(matrix):
    """A plain lot of two questions whose fits do not follow the matrix, or None if there is none."""
    size = len(matrix)
    check_dimension(size)
    corners = [[]]
    for _ in range(size):
        corners = [[*corner, number] for corner in corners for number in [Ratio(0), Ratio(1)]]
    # With heights at the origin and at a corner, fits follow if the transposed matrix times the matrix keeps the
    # direction of the corner. If it keeps that of each unit and each sum of two, it is a multiple of the unit matrix.
    for corner in corners[1:]:
        lot = Lot.heights(size, [corners[0], corner])
        if not follows_change(lot, matrix):
            return lot
    return None


def _transposed_times(matrix, size):
    """The transposed matrix times the matrix, which must be a square one of this size that can be inverted."""
    check_square(matrix, size)
    if not determinant(matrix):
        raise Singular("the determinant is zero")
    columns = [[row[k] for row in matrix] for k in range(size)]
    return [[total([one * two for one, two in zip(first, second)]) for second in columns] for first in columns]

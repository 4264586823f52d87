"""Linear systems, kernels, ranks, determinants and inverses of tables of numbers."""

from math import gcd, lcm

from spotheights.checks import check_rows, check_square
from spotheights.errors import WrongCount
from spotheights.ratios import Ratio, total


def solve(rows, right, *, width):
    """(True, values that satisfy all rows), or (False, weights that show that there are none)."""
    check_rows(rows, width)
    if len(right) != len(rows):
        raise WrongCount("the right side has another length than the list of rows")
    table = [[*row, number] for row, number in zip(rows, right)]
    reduced, pivots, _ = echelon(table, width + 1)
    if width in pivots:
        return False, _refuting_weights(table, width)
    values = [Ratio(0)] * width
    for row, pivot in zip(reduced, pivots):
        values[pivot] = Ratio(row[width], row[pivot])
    return True, values


def kernel(rows, *, width):
    """For each free column the list with 1 there, 0 at the other free columns, that each row takes to zero."""
    check_rows(rows, width)
    reduced, pivots, _ = echelon(rows, width)
    found = []
    for column in range(width):
        if column not in pivots:
            numbers = [Ratio(0) for _ in range(width)]
            numbers[column] = Ratio(1)
            for row, pivot in zip(reduced, pivots):
                numbers[pivot] = Ratio(-row[column], row[pivot])
            found.append(numbers)
    return found


def rank(rows):
    """The greatest number of independent rows."""
    width = len(rows[0]) if rows else 0
    check_rows(rows, width)
    return len(echelon(rows, width)[1])


def determinant(rows):
    """The determinant of a square matrix."""
    check_square(rows, len(rows))
    # The common bottom goes along as one more column: it shows what each row was multiplied by.
    left = [[*_whole_row(row), common_bottom(row)] for row in rows]
    product = Ratio(1)
    for column in range(len(rows)):
        at = _first_pivot(left, column)
        if at is None:
            return Ratio(0)
        pivot = left[at]
        factor = Ratio(pivot[column], pivot[-1])
        product = product * (-factor if at % 2 == 1 else factor)
        left = [_cleared(row, [*pivot[:-1], 0], column) for row in [*left[:at], *left[at + 1:]]]
    return product


def invert(rows):
    """(True, rows of the inverse), or (False, the first list of the kernel)."""
    size = len(rows)
    check_square(rows, size)
    table = []
    for at, row in enumerate(rows):
        table.append([*row, *_unit_row(at, size)])
    reduced, pivots, _ = echelon(table, size)
    if len(pivots) < size:
        return False, kernel(rows, width=size)[0]
    return True, [[Ratio(top, numbers[k]) for top in numbers[size:]] for k, numbers in enumerate(reduced)]


def echelon(rows, width):
    """Rows of integers, the multiples of the rows of the reduced echelon form; their pivot columns; what is left.

    Pivots are looked for in the first columns alone, as many as the width says; the rows that are left are
    combinations of the rows that are zero in all of these. Integers without a common divisor stay the shortest,
    and reducing whole rows is faster than reducing each number.
    """
    left = [_cut(_whole_row(row)) for row in rows]
    reduced = []
    pivots = []
    for column in range(width):
        at = _first_pivot(left, column)
        if at is not None:
            pivot = left[at]
            left = [_cleared(row, pivot, column) for row in [*left[:at], *left[at + 1:]]]
            reduced = [*[_cleared(row, pivot, column) for row in reduced], pivot]
            pivots.append(column)
    return reduced, pivots, left


def row_sum(weights, rows, *, width):
    """The sum of the rows, each times its weight."""
    weighed = [(weight, row) for weight, row in zip(weights, rows) if weight]
    return [total([weight * row[k] for weight, row in weighed]) for k in range(width)]


def common_bottom(numbers):
    """The least common multiple of the bottoms."""
    common = 1
    for number in numbers:
        common = lcm(common, number.bottom)
    return common


def _unit_row(at, width):
    """So many numbers, 1 at this place and 0 elsewhere."""
    return [Ratio(int(k == at)) for k in range(width)]


def _refuting_weights(table, width):
    """Weights with which the rows of the table sum to zero up to the width, and to 1 in the column there."""
    columns = [[row[k] for row in table] for k in range(width + 1)]
    return solve(columns, _unit_row(width, width + 1), width=len(table))[1]


def _first_pivot(rows, column):
    """The index of the first row that is not zero in the column, or None."""
    for at, row in enumerate(rows):
        if row[column] != 0:
            return at
    return None


def _cleared(row, pivot, column):
    """A multiple of the row plus a multiple of the pivot row, zero in the column."""
    if row[column] == 0:
        return row
    common = gcd(row[column], pivot[column])
    up = pivot[column] // common
    down = row[column] // common
    return _cut([up * high - down * low for high, low in zip(row, pivot)])


def _cut(row):
    """The integers divided by their greatest common divisor."""
    common = 0
    for number in row:
        common = gcd(common, number)
        if common == 1:
            return row
    return [number // common for number in row] if common > 1 else row


def _whole_row(numbers):
    """The numbers times their common bottom, as integers."""
    common = common_bottom(numbers)
    return [number.top * (common // number.bottom) for number in numbers]

import itertools
import unittest
from fractions import Fraction

from spotheights.errors import WrongCount
from spotheights.matrices import determinant, echelon, invert, kernel, rank, row_sum, solve
from spotheights.ratios import Ratio
from tests.helpers import Drawn, fraction, ratio, ratios, table, texts


def echelon_by_fractions(rows, width):
    """The reduced echelon form by Python's own fractions, and its pivot columns."""
    left = [[fraction(number) for number in row] for row in rows]
    pivots = []
    for column in range(width):
        at = len(pivots)
        found = [k for k in range(at, len(left)) if left[k][column]]
        if found:
            left[at], left[found[0]] = left[found[0]], left[at]
            left[at] = [number / left[at][column] for number in left[at]]
            for k in range(len(left)):
                if k != at:
                    left[k] = [a - left[k][column] * b for a, b in zip(left[k], left[at])]
            pivots.append(column)
    return left, pivots


def product(row, numbers):
    return sum([a * b for a, b in zip(row, numbers)], Ratio(0))


def combined(rows, height, width, drawn):
    """Rows of the told number that are combinations of the told rows."""
    return [[product(factors, [row[k] for row in rows]) for k in range(width)]
            for factors in drawn.rows(height, len(rows), 3)]


def systems():
    """Tables of many shapes and ranks, with zero columns and repeated rows among them."""
    drawn = Drawn(23)
    for height, width in itertools.product(range(6), range(6)):
        yield drawn.rows(height, width, 9), width
        for inner in range(min(height, width)):
            yield combined(drawn.rows(inner, width, 5), height, width, drawn), width
        yield [[Ratio(0)] * min(2, width) + row[2:] for row in drawn.rows(height, width, 9)], width
        yield [[Ratio(drawn.integer(0, 1)) for _ in range(width)] for _ in range(height)], width


class Solving(unittest.TestCase):

    def assert_solved(self, rows, right, width):
        found = solve(rows, right, width=width)
        self.assertIsInstance(found, tuple)
        pivots = echelon_by_fractions(rows, width)[1]
        more = echelon_by_fractions([list(row) + [number] for row, number in zip(rows, right)], width + 1)[1]
        self.assertIs(found[0], len(pivots) == len(more))
        self.assertIsInstance(found[1], list)
        for number in found[1]:
            self.assertIsInstance(number, Ratio)
        if found[0]:
            self.assertEqual(len(found[1]), width)
            for row, number in zip(rows, right):
                self.assertEqual(product(row, found[1]), number)
            for column in range(width):
                if column not in pivots:
                    self.assertEqual(found[1][column], 0)
        else:
            self.assertEqual(len(found[1]), len(rows))
            for column in range(width):
                self.assertEqual(product(found[1], [row[column] for row in rows]), 0)
            self.assertEqual(product(found[1], right), 1)
        return found[0]

    def test_many_systems(self):
        drawn = Drawn(29)
        outcomes = []
        for rows, width in systems():
            outcomes.append(self.assert_solved(rows, drawn.row(len(rows)), width))
            values = drawn.row(width)
            outcomes.append(self.assert_solved(rows, [product(row, values) for row in rows], width))
        self.assertGreater(outcomes.count(True), 100)
        self.assertGreater(outcomes.count(False), 50)

    def test_by_hand(self):
        good, values = solve(table("2 1", "1 -1"), ratios("5 1"), width=2)
        self.assertEqual((good, texts(values)), (True, ["2", "1"]))
        good, values = solve(table("0 2 4", "0 1 2"), ratios("6 3"), width=3)
        self.assertEqual((good, texts(values)), (True, ["0", "3", "0"]))
        good, weights = solve(table("1 1", "2 2"), ratios("1 3"), width=2)
        self.assertEqual((good, texts(weights)), (False, ["-2", "1"]))

    def test_without_rows_or_columns(self):
        self.assertEqual(solve([], [], width=0), (True, []))
        self.assertEqual(solve([], [], width=3), (True, [0, 0, 0]))
        self.assertEqual(solve([[], []], ratios("0 0"), width=0), (True, []))
        self.assertEqual(solve([[]], ratios("3"), width=0), (False, ratios("1/3")))
        self.assert_solved([[], [], []], ratios("0 -2 5"), 0)

    def test_the_largest_systems(self):
        drawn = Drawn(31)
        rows = drawn.rows(24, 24, 999)
        self.assertTrue(self.assert_solved(rows, drawn.row(24, 999), 24))
        rows = combined(drawn.rows(20, 24, 9), 24, 24, drawn)
        self.assertFalse(self.assert_solved(rows, drawn.row(24), 24))
        values = drawn.row(24)
        self.assertTrue(self.assert_solved(rows, [product(row, values) for row in rows], 24))

    def test_wrong_counts(self):
        for rows, right, width in [
            (table("1 2", "1"), ratios("0 0"), 2), (table("1", "1 2"), ratios("0 0"), 1), (table("1 2"), ratios("0"), 3),
            (table("1 2"), ratios("0"), 1), (table("1 2"), [], 2), (table("1 2"), ratios("0 0"), 2), ([], ratios("0"), 0),
            ([], ratios("0"), 2), ([[]], [], 0), ([[]], ratios("0"), 1), ([[], []], ratios("0"), 0),
        ]:
            with self.subTest(str(width)), self.assertRaises(WrongCount):
                solve(rows, right, width=width)

    def test_the_width_is_passed_by_keyword(self):
        with self.assertRaises(TypeError):
            solve([], [], 0)
        with self.assertRaises(TypeError):
            kernel([], 0)

    def test_tuples_and_unchanged_arguments(self):
        for right in ["5 1", "5 10"]:
            rows, right = table("2 1", "4 2"), ratios(right)
            found = solve(tuple([tuple(row) for row in rows]), tuple(right), width=2)
            self.assertEqual(found, solve(rows, right, width=2))
            found[1].clear()
            self.assertEqual([texts(row) for row in rows], [["2", "1"], ["4", "2"]])
            self.assertEqual(len(right), 2)
            self.assertEqual(len(solve(rows, right, width=2)[1]), 2)


class Kernels(unittest.TestCase):

    def test_example(self):
        found = kernel([[Ratio(2), Ratio(3), Ratio(0)]], width=3)
        self.assertEqual(texts(found[0]), ["-3/2", "1", "0"])
        self.assertEqual(texts(found[1]), ["0", "0", "1"])

    def test_many_kernels(self):
        for rows, width in systems():
            found = kernel(rows, width=width)
            pivots = echelon_by_fractions(rows, width)[1]
            free = [column for column in range(width) if column not in pivots]
            self.assertEqual(len(found), len(free))
            for column, numbers in zip(free, found):
                self.assertEqual(len(numbers), width)
                self.assertEqual([numbers[k] for k in free], [int(k == column) for k in free])
                self.assertEqual([product(row, numbers) for row in rows], [0] * len(rows))

    def test_without_rows_or_columns(self):
        self.assertEqual(kernel([], width=0), [])
        self.assertEqual(kernel([[], []], width=0), [])
        self.assertEqual(kernel([], width=2), [ratios("1 0"), ratios("0 1")])
        self.assertEqual(kernel(table("0"), width=1), [ratios("1")])

    def test_a_zero_column_first_and_24_columns(self):
        self.assertEqual(kernel(table("0 1 2"), width=3), table("1 0 0", "0 -2 1"))
        rows = combined(Drawn(37).rows(10, 24, 9), 24, 24, Drawn(41))
        found = kernel(rows, width=24)
        self.assertEqual(len(found), 14)
        for row in rows:
            self.assertEqual([product(row, numbers) for numbers in found], [0] * 14)

    def test_wrong_counts(self):
        for rows, width in [(table("1 2", "1"), 2), (table("1 2"), 3), (table("1 2"), 1), ([[]], 1), (table("1"), 0)]:
            with self.assertRaises(WrongCount):
                kernel(rows, width=width)

    def test_new_lists_and_unchanged_arguments(self):
        rows = table("1 2 3")
        found = kernel(rows, width=3)
        found[0][0] = None
        found[1].clear()
        self.assertEqual(kernel(rows, width=3), table("-2 1 0", "-3 0 1"))
        self.assertEqual([texts(row) for row in rows], [["1", "2", "3"]])
        self.assertEqual(kernel((tuple(rows[0]),), width=3), table("-2 1 0", "-3 0 1"))


class Ranks(unittest.TestCase):

    def test_many_ranks(self):
        for rows, width in systems():
            self.assertEqual(rank(rows), len(echelon_by_fractions(rows, width)[1]))

    def test_without_rows_or_columns(self):
        self.assertEqual([rank([]), rank([[]]), rank([[], []]), rank(table("0 0"))], [0, 0, 0, 0])

    def test_24_rows_and_columns(self):
        drawn = Drawn(43)
        self.assertEqual(rank(drawn.rows(24, 24, 999)), 24)
        self.assertEqual(rank(combined(drawn.rows(17, 24, 9), 24, 24, drawn)), 17)

    def test_wrong_counts(self):
        for rows in [table("1 2", "1"), table("1", "1 2"), [[], ratios("1")], [ratios("1"), []]]:
            with self.assertRaises(WrongCount):
                rank(rows)


class Determinants(unittest.TestCase):

    def test_many_determinants(self):
        drawn = Drawn(47)
        for size in range(5):
            for _ in range(12):
                rows = drawn.rows(size, size, 4)
                if drawn.integer(0, 1):
                    rows = [[number * drawn.integer(0, 1) for number in row] for row in rows]
                wanted = Fraction(0)
                for places in itertools.permutations(range(size)):
                    turns = sum([places[i] > places[k] for k in range(size) for i in range(k)])
                    part = Fraction((-1) ** turns)
                    for row, place in zip(rows, places):
                        part *= fraction(row[place])
                    wanted += part
                found = determinant(rows)
                self.assertIsInstance(found, Ratio)
                self.assertEqual(fraction(found), wanted)

    def test_by_hand(self):
        self.assertEqual(determinant([]), 1)
        self.assertIsInstance(determinant([]), Ratio)
        self.assertEqual(str(determinant(table("-3/2"))), "-3/2")
        self.assertEqual(str(determinant(table("0 1", "1 0"))), "-1")
        self.assertEqual(str(determinant(table("0 0 2", "0 3 0", "5 0 0"))), "-30")
        self.assertEqual(determinant(table("1/2 1/3", "3 2")), 0)
        self.assertEqual(determinant(table("0 1", "0 5")), 0)

    def test_rows_that_change_places(self):
        for size in range(1, 8):
            for at in range(size):
                # The row with the first pivot stands behind the others: so many exchanges of neighbours.
                rows = [[Ratio(int(k == i + 1)) for k in range(size)] for i in range(at)]
                rows.append([Ratio(int(k == 0)) for k in range(size)])
                rows += [[Ratio(int(k == i)) for k in range(size)] for i in range(at + 1, size)]
                self.assertEqual(determinant(rows), (-1) ** at)

    def test_24_rows(self):
        drawn = Drawn(53)
        first, second = drawn.rows(24, 24, 9), drawn.rows(24, 24, 9)
        both = [[product(row, [other[k] for other in second]) for k in range(24)] for row in first]
        self.assertEqual(determinant(both), determinant(first) * determinant(second))

    def test_not_square(self):
        for rows in [[[]], [[], []], table("1 2"), table("1", "2"), table("1 2", "3"), table("1", "2 3")]:
            with self.assertRaises(WrongCount):
                determinant(rows)


class Inverses(unittest.TestCase):

    def test_many_inverses(self):
        drawn = Drawn(59)
        outcomes = []
        for size in range(1, 6):
            for _ in range(12):
                rows = [[number * drawn.integer(0, 1) for number in row] for row in drawn.rows(size, size, 6)]
                good, found = invert(rows)
                outcomes.append(good)
                self.assertIs(good, determinant(rows) != 0)
                if good:
                    unit = [[int(i == k) for k in range(size)] for i in range(size)]
                    self.assertEqual([[product(row, [other[k] for other in found]) for k in range(size)]
                                      for row in rows], unit)
                else:
                    self.assertEqual(found, kernel(rows, width=size)[0])
        self.assertTrue(10 < outcomes.count(True) < 50)

    def test_by_hand(self):
        self.assertEqual(invert([]), (True, []))
        self.assertEqual(invert(table("2")), (True, table("1/2")))
        self.assertEqual(invert(table("0")), (False, ratios("1")))
        self.assertEqual(invert(table("0 1", "2 0")), (True, table("0 1/2", "1 0")))
        self.assertEqual(invert(table("1 2", "2 4")), (False, ratios("-2 1")))
        self.assertEqual(invert(table("0 1", "0 2")), (False, ratios("1 0")))
        self.assertIsInstance(invert([]), tuple)

    def test_24_rows_there_and_back(self):
        rows = Drawn(61).rows(24, 24, 999)
        good, found = invert(rows)
        self.assertTrue(good)
        self.assertEqual(invert(found), (True, rows))
        self.assertEqual(determinant(rows) * determinant(found), 1)

    def test_not_square(self):
        for rows in [[[]], [[], []], table("1 2"), table("1", "2"), table("1 2", "3"), table("1", "2 3")]:
            with self.assertRaises(WrongCount):
                invert(rows)

    def test_new_lists_and_unchanged_arguments(self):
        rows = table("1 2", "3 4")
        for name in [determinant, rank, invert]:
            name(rows)
            self.assertEqual(name(tuple([tuple(row) for row in rows])), name(rows))
        found = invert(rows)[1]
        found[0].clear()
        self.assertEqual(invert(rows), (True, table("-2 1", "3/2 -1/2")))
        self.assertEqual([texts(row) for row in rows], [["1", "2"], ["3", "4"]])


class LongNumbers(unittest.TestCase):

    def test_sixty_digits(self):
        rows = [[ratio(Fraction(10 ** 59 + 7 * i + 3 * k, 10 ** 58 + 11 * i + k * k)) for k in range(4)]
                for i in range(4)]
        good, values = solve(rows, rows[2], width=4)
        self.assertTrue(good)
        self.assertEqual([product(row, values) for row in rows], rows[2])

    def test_numbers_of_many_thousands_of_digits(self):
        big = Ratio(10 ** 9000 + 1, 10 ** 8000 + 3)
        good, found = invert([[big, Ratio(1)], [Ratio(0), big]])
        self.assertTrue(good)
        self.assertEqual([found[0][0] * big, found[0][1] * big * big, found[1][0]], [1, -1, 0])


class Echelons(unittest.TestCase):

    def test_what_is_left_is_zero_in_the_first_columns(self):
        rows = table("1 2 1 0 0", "1/2 1 0 1 0", "0 0 3 0 1/3")
        reduced, pivots, left = echelon(rows, 2)
        self.assertEqual((reduced, pivots), ([[1, 2, 1, 0, 0]], [0]))
        self.assertEqual(left, [[0, 0, -1, 2, 0], [0, 0, 9, 0, 1]])
        self.assertEqual([texts(row) for row in rows][2], ["0", "0", "3", "0", "1/3"])

    def test_many(self):
        for rows, width in systems():
            for first in range(width + 1):
                reduced, pivots, left = echelon(rows, first)
                self.assertEqual(pivots, echelon_by_fractions(rows, first)[1])
                self.assertEqual((len(reduced), len(reduced) + len(left)), (len(pivots), len(rows)))
                for row in left:
                    self.assertEqual(row[:first], [0] * first)

    def test_row_sums(self):
        rows = table("1 2", "1/2 -1")
        self.assertEqual(texts(row_sum(ratios("2 -4"), rows, width=2)), ["0", "8"])
        self.assertEqual(texts(row_sum(ratios("0 0"), rows, width=2)), ["0", "0"])
        self.assertEqual(row_sum([], [], width=3), [0, 0, 0])
        self.assertEqual([texts(row) for row in rows], [["1", "2"], ["1/2", "-1"]])


if __name__ == "__main__":
    unittest.main()

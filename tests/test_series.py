import unittest

from spotheights.leastspace import least_rows, least_space
from spotheights.series import vanishes_below, weighted_part
from tests.helpers import Drawn, lot, many_lots, mixed, ratios


class Parts(unittest.TestCase):

    def test_by_hand(self):
        found = lot("at 0 0", "at 1 2", "at 1 2 ask x")
        self.assertEqual(str(weighted_part(2, found, ratios("-1 1 0"), 0)), "0")
        self.assertEqual(str(weighted_part(2, found, ratios("-1 1 1/2"), 1)), "3/2 x + 2 y")
        self.assertEqual(str(weighted_part(2, list(found), ratios("0 1 0"), 2)), "1/2 x^2 + 2 x y + 2 y^2")
        self.assertEqual(str(weighted_part(2, found, ratios("0 0 0"), 3)), "0")

    def test_parts_of_the_series(self):
        drawn = Drawn(127)
        for found in many_lots():
            weights = drawn.row(len(found))
            wanted = mixed([question.series(5) for question in found], weights, found.dimension)
            for degree in range(6):
                self.assertEqual(weighted_part(found.dimension, found, weights, degree), wanted.part(degree))

    def test_degree_16(self):
        found = lot("at 999 1/999 -999", "at 0 0 0 ask x^4", dimension=3)
        weights = ratios("1/3 7")
        wanted = mixed([question.series(16) for question in found], weights, 3)
        self.assertEqual(weighted_part(3, found, weights, 16), wanted.part(16))

    def test_vanishing(self):
        for found in many_lots():
            for row, member in zip(least_rows(found), least_space(found)):
                for degree in range(8):
                    self.assertIs(vanishes_below(found.dimension, found, row, degree), degree <= member.degree)
        self.assertIs(vanishes_below(2, lot("at 0 0"), ratios("0"), 16), True)


if __name__ == "__main__":
    unittest.main()

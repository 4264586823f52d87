import unittest

from spotheights.errors import BadIndex, Dependent, NotPlain, TooLarge, TooWide, WrongDimension
from spotheights.leastspace import least_space
from spotheights.lots import Lot
from spotheights.lowersets import fitting_sets, is_lower, lower_sets, monomial_space
from spotheights.polynomials import Polynomial
from spotheights.questions import Question
from spotheights.ratios import Ratio, compare
from spotheights.staircases import grid_lot, judge_staircase
from spotheights.verdicts import Crossed, Stairs
from tests.helpers import Checks, Drawn, lot, many_lots, plain_lots, ratio, ratios, table, texts

LEVELS = [ratios("3 -1/2 0 7 1 2 5 9"), ratios("1 2 0 -4 8 9 3 1/3"), ratios("-1 1 0 2 5 7 1/7 4")]


def levels(*rows):
    return [texts(row) for row in rows]


def grids():
    """Lots whose spots are arranged like lower sets, with the monomials of these, in any order."""
    drawn = Drawn(251)
    found = []
    for dimension in [1, 2, 3]:
        for size in [0, 1, 2, 4, 6, 8]:
            for lower in list(lower_sets(dimension, size))[::3]:
                monomials = list(lower)
                for at in range(len(monomials)):
                    other = drawn.integer(0, at)
                    monomials[at], monomials[other] = monomials[other], monomials[at]
                found.append((grid_lot(LEVELS[:dimension], monomials), lower))
    return found


def drawn_plain_lots():
    """Plain lots with few different coordinates, many of them staircases and many not."""
    drawn = Drawn(253)
    found = []
    for dimension in [1, 2, 2, 2, 3, 3]:
        for many in range(9):
            spots = []
            for _ in range(40):
                spot = [Ratio(drawn.integer(0, 2)) for _ in range(dimension)]
                if spot not in spots and len(spots) < many:
                    spots.append(spot)
            operators = [Polynomial.constant(dimension, Ratio(drawn.integer(1, 3))) for _ in spots]
            found.append(Lot(dimension, [Question(spot, operator) for spot, operator in zip(spots, operators)]))
    return found


def crossed_pairs(found):
    spots = [list(question.spot) for question in found]
    pairs = []
    for variable in range(found.dimension):
        for first in spots:
            for second in spots:
                one = [*first[:variable], second[variable], *first[variable + 1:]]
                two = [*second[:variable], first[variable], *second[variable + 1:]]
                if one not in spots and two not in spots:
                    pairs.append((variable, first, second))
    return pairs


class GridLots(unittest.TestCase):

    def test_by_hand(self):
        found = grid_lot([ratios("5 7"), ratios("-1 0 1/2")], [(0, 0), (1, 2), (0, 1)])
        self.assertIsInstance(found, Lot)
        self.assertEqual(texts(found), ["at 5 -1", "at 7 1/2", "at 5 0"])
        self.assertEqual(texts(grid_lot([ratios("1 2 3")], [(2,), (0,)])), ["at 3", "at 1"])
        self.assertEqual(texts(grid_lot((ratios("1"), tuple(ratios("2")), ratios("3")), ((0, 0, 0),))), ["at 1 2 3"])

    def test_no_monomials(self):
        for dimension in [1, 2, 3]:
            self.assertEqual(grid_lot([[]] * dimension, []), Lot.empty(dimension))
            self.assertEqual(grid_lot([ratios("1 2")] * dimension, []), Lot.empty(dimension))

    def test_numbers_of_levels(self):
        for many in [0, 4, 5]:
            for monomials in [[], [(0,) * many], [(-1,) * many]]:
                with self.assertRaises(WrongDimension):
                    grid_lot([ratios("1 2")] * many, monomials)

    def test_monomials(self):
        two = [ratios("1 2"), ratios("3 4 5")]
        for error, monomials in [
            (WrongDimension, [(0,)]), (WrongDimension, [(0, 0, 0)]), (WrongDimension, [(0, 0), ()]),
            (BadIndex, [(2, 0)]), (BadIndex, [(0, 3)]), (BadIndex, [(-1, 0)]), (BadIndex, [(0, -1)]),
            (BadIndex, [(0, 0), (1, 3)]), (BadIndex, [(2, 0), (0,)]), (WrongDimension, [(0,), (2, 0)]),
            (WrongDimension, [(-1,)]), (WrongDimension, [(7, 7, 7)]),
            # All monomials are looked at before any question is made.
            (BadIndex, [(0, 0), (0, 0), (0, 3)]), (WrongDimension, [(0, 0), (0, 0), (0,)]),
        ]:
            with self.subTest(str(monomials)), self.assertRaises(error):
                grid_lot(two, monomials)
        with self.assertRaises(BadIndex):
            grid_lot([[], ratios("1")], [(0, 0)])
        with self.assertRaises(BadIndex):
            grid_lot([[Ratio(1000)]], [(0,), (1,)])

    def test_questions_and_lots(self):
        with self.assertRaises(TooLarge):
            grid_lot([ratios("1 1000")], [(1,)])
        with self.assertRaises(TooLarge):
            grid_lot([ratios("1"), ratios("1/1000")], [(0, 0)])
        self.assertEqual(texts(grid_lot([ratios("1 1000")], [(0,)])), ["at 1"])
        with self.assertRaises(Dependent) as caught:
            grid_lot([ratios("1 2")], [(0,), (1,), (0,)])
        self.assertEqual(caught.exception.weights, ratios("-1 0 1"))
        with self.assertRaises(Dependent):
            grid_lot([ratios("4 4")], [(0,), (1,)])
        # All questions are made before the lot is.
        with self.assertRaises(TooLarge):
            grid_lot([ratios("1 1000")], [(0,), (0,), (1,)])
        with self.assertRaises(TooWide):
            grid_lot([ratios("1 2 3 4 5 6 7 8 9")], [(k,) for k in range(9)])
        self.assertEqual(grid_lot([ratios("1 2 3 4 5 6 7 8")], [(k,) for k in range(8)]).width, 8)

    def test_what_was_passed_is_unchanged(self):
        two = [ratios("1 2"), ratios("3 4 5")]
        monomials = [(1, 2)]
        found = grid_lot(two, monomials)
        self.assertEqual((levels(*two), monomials), ([["1", "2"], ["3", "4", "5"]], [(1, 2)]))
        two[0].clear()
        two.clear()
        monomials.clear()
        self.assertEqual(texts(found), ["at 2 5"])


class Staircases(Checks):

    def test_example(self):
        found = judge_staircase(lot("at 5 1", "at 2 1", "at 2 7"))
        self.assertEqual(levels(*found.levels), [["2", "5"], ["1", "7"]])

    def test_by_hand(self):
        for questions, wanted, dimension in [
            (["at 3", "at -1", "at 1/2"], [["-1", "1/2", "3"]], 1), (["at 4 5"], [["4"], ["5"]], 2), ([], [[], []], 2),
            (["at 0 0", "at 1 0", "at 0 1", "at 1 1"], [["0", "1"], ["0", "1"]], 2),
            (["at 9 9", "at 8 9", "at 7 9", "at 8 2"], [["8", "7", "9"], ["9", "2"]], 2),
            (["at 1/3 0", "at 1/2 0", "at -1/2 0"], [["-1/2", "1/3", "1/2"], ["0"]], 2),
            (["at 1 1 1", "at 1 1 0", "at 1 0 1", "at 0 1 1"], [["1", "0"]] * 3, 3),
            (["at 2 ask 5", "at 1 ask -1/3"], [["1", "2"]], 1),
        ]:
            with self.subTest(str(questions)):
                found = judge_staircase(lot(*questions, dimension=dimension))
                self.assertIsInstance(found, Stairs)
                self.assertEqual(levels(*found.levels), wanted)
                self.assert_holds(found)

    def test_crossed_by_hand(self):
        found = judge_staircase(lot("at 0 0", "at 1 1"))
        self.assertIsInstance(found, Crossed)
        self.assertEqual(sorted([found.first, found.second]), [0, 1])
        self.assertIn(found.variable, [0, 1])
        self.assert_holds(found)
        found = judge_staircase(lot("at 0 0", "at 1 0", "at 0 1", "at 2 5"))
        self.assertIn(3, [found.first, found.second])
        self.assert_holds(found)
        self.assert_holds(judge_staircase(lot("at 0 0 0", "at 1 0 0", "at 0 1 1", dimension=3)))

    def test_exactly_one_is_possible(self):
        seen = {Stairs: 0, Crossed: 0}
        for found in plain_lots() + drawn_plain_lots() + [one for one, _ in grids()]:
            with self.subTest(texts(found)):
                certificate = judge_staircase(found)
                self.assert_holds(certificate)
                self.assertEqual(certificate.lot, found)
                self.assertIsInstance(certificate, Crossed if crossed_pairs(found) else Stairs)
                seen[certificate.__class__] += 1
        self.assertGreater(min(seen.values()), 20)

    def test_grids_of_lower_sets(self):
        for found, lower in grids():
            certificate = judge_staircase(found)
            self.assertIsInstance(certificate, Stairs)
            self.assertEqual(least_space(found), monomial_space(found.dimension, list(lower)))
            self.assertEqual(list(fitting_sets(found)), [lower])

    def test_the_order_of_the_levels(self):
        for found in drawn_plain_lots() + [one for one, _ in grids()]:
            certificate = judge_staircase(found)
            if certificate.VERDICT:
                for variable, level in enumerate(certificate.levels):
                    values = [question.spot[variable] for question in found]
                    self.assertEqual(len(level), len({str(value) for value in values}))
                    for first, second in zip(level, level[1:]):
                        more = values.count(first) - values.count(second)
                        self.assertTrue(more > 0 or more == 0 and compare(first, second) < 0)

    def test_facts(self):
        for found in plain_lots() + drawn_plain_lots():
            certificate = judge_staircase(found)
            sets = list(fitting_sets(found))
            if certificate.VERDICT:
                places = [tuple([level.index(number) for level, number in zip(certificate.levels, question.spot)])
                          for question in found]
                self.assertTrue(is_lower(places))
                self.assertEqual(least_space(found), monomial_space(found.dimension, places))
                self.assertEqual([sorted(lower) for lower in sets], [sorted(places)])
            if found.dimension == 1:
                self.assertIsInstance(certificate, Stairs)
            if found.dimension == 2:
                self.assertIs(certificate.VERDICT, len(sets) == 1)

    def test_the_empty_lot_and_one_question(self):
        for dimension in [1, 2, 3]:
            found = judge_staircase(Lot.empty(dimension))
            self.assertIsInstance(found, Stairs)
            self.assertEqual(found.levels, [[]] * dimension)
            self.assert_holds(found)
            spot = ratios("-7/3 2 0")[:dimension]
            self.assertEqual(judge_staircase(Lot.heights(dimension, [spot])).levels, [[number] for number in spot])

    def test_lots_that_are_not_plain(self):
        for found in many_lots():
            if not found.plain:
                with self.assertRaises(NotPlain):
                    judge_staircase(found)
        with self.assertRaises(NotPlain):
            judge_staircase(lot("at 0", "at 1 ask 1 + x", dimension=1))

    def test_large_coordinates(self):
        drawn = Drawn(255)
        values = [ratio(f"{drawn.integer(-999, 999)}/{drawn.integer(1, 999)}") for _ in range(8)]
        found = judge_staircase(Lot.heights(1, [[value] for value in values]))
        self.assert_holds(found)
        for first, second in zip(found.levels[0], found.levels[0][1:]):
            self.assertEqual(compare(first, second), -1)
        self.assertEqual(sorted(texts(found.levels[0])), sorted(texts(values)))

    def test_lists_are_new(self):
        found = lot("at 5 1", "at 2 1", "at 2 7")
        certificate = judge_staircase(found)
        certificate.levels[0].clear()
        certificate.levels.clear()
        self.assertEqual(judge_staircase(found).levels, table("2 5", "1 7"))
        self.assertEqual(texts(found), ["at 5 1", "at 2 1", "at 2 7"])


if __name__ == "__main__":
    unittest.main()

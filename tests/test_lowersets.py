import itertools
import unittest

from spotheights.errors import WrongDimension
from spotheights.ideals import Ideal
from spotheights.lots import Lot
from spotheights.lowersets import fitting_sets, is_lower, lower_sets, monomial_space
from spotheights.monomials import divides, monomials_up_to
from spotheights.polynomials import Polynomial
from spotheights.ratios import Ratio
from spotheights.rivals import judge_fit
from spotheights.spaces import Space
from tests.helpers import Drawn, all_orders, closed_lots, lot, many_lots, poly, space, texts

# How many partitions, and plane partitions, the numbers 0 to 8 have.
NUMBERS = {1: [1] * 9, 2: [1, 1, 2, 3, 5, 7, 11, 15, 22], 3: [1, 1, 3, 6, 13, 24, 48, 86, 160]}


def place(exponents):
    return (sum(exponents), [-exponent for exponent in exponents])


def has_divisors(monomials):
    """Whether all divisors of the monomials are among them, by trying all of them."""
    for exponents in monomials:
        for lower in itertools.product(*[range(exponent + 1) for exponent in exponents]):
            if lower not in monomials:
                return False
    return True


class LowerSets(unittest.TestCase):

    def test_is_lower(self):
        for monomials, wanted in [
            ([], True), ([(0,)], True), ([(1,)], False), ([(0,), (1,), (2,)], True), ([(0,), (2,)], False),
            ([(0, 0), (1, 0), (0, 1)], True), ([(0, 1), (1, 0), (0, 0)], True), ([(0, 0), (1, 1)], False),
            ([(0, 0), (0, 0)], True), ([(1, 0), (0, 0), (1, 0), (0, 0)], True), ([(1, 0), (1, 0)], False),
            ([(0, 0), (1, 0), (1, 1)], False), ([(0, 0), (1, 0), (0, 1), (1, 1)], True), ([(0, 0, 0), (0, 0, 1)], True),
            ([(0, 0, 0), (0, 1, 1), (0, 1, 0)], False), (((0, 0), (0, 1)), True), ([(16,)], False),
        ]:
            with self.subTest(str(monomials)):
                told = list(monomials)
                self.assertIs(is_lower(monomials), wanted)
                self.assertEqual(list(monomials), told)

    def test_all_sets_of_small_monomials(self):
        for dimension, degree in [(1, 4), (2, 2), (3, 1)]:
            places = list(monomials_up_to(dimension, degree))
            for size in range(len(places) + 1):
                for monomials in itertools.combinations(places, size):
                    self.assertIs(is_lower(list(monomials)), has_divisors(monomials))

    def test_lengths(self):
        for monomials in [[()], [(), ()], [(0, 0, 0, 0)], [(0,), (0, 0)], [(0, 0), (0,)], [(0, 0), (0, 0, 0)],
                          [(5, 5), (0, 0, 0)], [(3,), (0, 0)], [(0, 0), (7, 0), ()], [(2, 2), (0, 0, 0, 0)],
                          [(0, 0), (1, 0), (0, 1, 0)]]:
            with self.subTest(str(monomials)), self.assertRaises(WrongDimension):
                is_lower(monomials)

    def test_example(self):
        self.assertEqual(list(lower_sets(2, 3)), [((0, 0), (1, 0), (0, 1)), ((0, 0), (1, 0), (2, 0)),
                                                  ((0, 0), (0, 1), (0, 2))])

    def test_numbers(self):
        for dimension in [1, 2, 3]:
            for size in range(9):
                found = list(lower_sets(dimension, size))
                self.assertEqual(len(found), NUMBERS[dimension][size])
                self.assertEqual(len(set(found)), len(found))
                for lower in found:
                    self.assertIsInstance(lower, tuple)
                    self.assertEqual((len(lower), len(set(lower))), (size, size))
                    self.assertTrue(has_divisors(lower))
                    self.assertEqual(list(lower), sorted(lower, key=place))

    def test_the_order_of_the_sets(self):
        for dimension in [1, 2, 3]:
            for size in range(9):
                found = list(lower_sets(dimension, size))
                self.assertEqual(found, sorted(found, key=lambda lower: [place(exponents) for exponents in lower]))

    def test_sizes_0_and_1(self):
        for dimension in [1, 2, 3]:
            self.assertEqual(list(lower_sets(dimension, 0)), [()])
            self.assertEqual(list(lower_sets(dimension, 1)), [((0,) * dimension,)])
        self.assertEqual(list(lower_sets(1, 8)), [tuple([(k,) for k in range(8)])])

    def test_dimensions(self):
        for dimension in [0, 4, -1]:
            for size in [0, 3]:
                sets = lower_sets(dimension, size)
                with self.assertRaises(WrongDimension):
                    next(sets)


class FittingSets(unittest.TestCase):

    def test_by_hand(self):
        for questions, wanted, dimension in [
            ([], [()], 2), (["at 5 7"], [((0, 0),)], 2), (["at 5 7 ask x"], [], 2),
            (["at 0 0", "at 1 1"], [((0, 0), (1, 0)), ((0, 0), (0, 1))], 2),
            (["at 0 0", "at 1 0"], [((0, 0), (1, 0))], 2), (["at 0 0", "at 0 0 ask y"], [((0, 0), (0, 1))], 2),
            (["at 0", "at 1", "at 5"], [((0,), (1,), (2,))], 1), (["at 0 ask x", "at 1 ask x"], [], 1),
            (["at 0 0 0", "at 1 2 3"], [((0, 0, 0), (1, 0, 0)), ((0, 0, 0), (0, 1, 0)), ((0, 0, 0), (0, 0, 1))], 3),
            (["at 0 0", "at 1 1", "at 2 2"], [((0, 0), (1, 0), (2, 0)), ((0, 0), (0, 1), (0, 2))], 2),
        ]:
            with self.subTest(str(questions)):
                self.assertEqual(list(fitting_sets(lot(*questions, dimension=dimension))), wanted)

    def test_every_lot(self):
        for found in many_lots():
            many = len(found)
            if many < 6 or found.dimension < 3:
                wanted = [lower for lower in lower_sets(found.dimension, many)
                          if judge_fit(found, monomial_space(found.dimension, list(lower))).VERDICT]
                self.assertEqual(list(fitting_sets(found)), wanted)

    def test_eight_questions_in_three_variables(self):
        drawn = Drawn(245)
        spots = [[Ratio(drawn.integer(-999, 999), drawn.integer(500, 999)) for _ in range(3)] for _ in range(8)]
        self.assertEqual(list(fitting_sets(Lot.heights(3, spots))), list(lower_sets(3, 8)))
        cube = lot(*[f"at {a} {b} {c}" for a in (0, 1) for b in (0, 1) for c in (0, 1)], dimension=3)
        self.assertEqual(len(list(fitting_sets(cube))), 1)

    def test_normal_monomials_are_one_of_them(self):
        for found in closed_lots():
            sets = [sorted(lower) for lower in fitting_sets(found)]
            for order in all_orders(found.dimension):
                self.assertIn(sorted(Ideal(found, order).normal_monomials()), sets)

    def test_the_empty_lot(self):
        for dimension in [1, 2, 3]:
            self.assertEqual(list(fitting_sets(Lot.empty(dimension))), [()])


class MonomialSpaces(unittest.TestCase):

    def test_by_hand(self):
        self.assertEqual(monomial_space(2, [(1, 1), (0, 0), (1, 1)]), space("1", "x y"))
        self.assertEqual(monomial_space(1, [(8,)]), Space(1, [poly("x^8", 1)]))
        self.assertEqual(monomial_space(3, ((0, 0, 2), (1, 0, 0))), space("x", "z^2", dimension=3))
        for dimension in [1, 2, 3]:
            self.assertEqual(monomial_space(dimension, []), Space(dimension))
            places = list(monomials_up_to(dimension, 3))
            self.assertEqual(texts(monomial_space(dimension, places[::-1])),
                             [str(Polynomial.monomial(exponents)) for exponents in places])

    def test_dimensions(self):
        for dimension in [0, 4]:
            with self.assertRaises(WrongDimension):
                monomial_space(dimension, [])
        for dimension in [1, 2, 3]:
            for exponents in [(), (0,), (0, 0), (0, 0, 0), (0, 0, 0, 0)]:
                if len(exponents) != dimension:
                    with self.assertRaises(WrongDimension):
                        monomial_space(dimension, [(0,) * dimension, exponents])

    def test_lists_are_unchanged(self):
        monomials = [(1, 0), (0, 0)]
        found = monomial_space(2, monomials)
        self.assertEqual(monomials, [(1, 0), (0, 0)])
        monomials.clear()
        self.assertEqual(texts(found), ["1", "x"])

    def test_divisors(self):
        for lower in lower_sets(3, 6):
            for exponents in lower:
                for other in monomials_up_to(3, sum(exponents)):
                    self.assertTrue(other in lower or not divides(other, exponents))


if __name__ == "__main__":
    unittest.main()

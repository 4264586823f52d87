import inspect
import itertools
import math
import unittest

from spotheights.errors import WrongDimension
from spotheights.monomials import comes_before, divides, has_all_divisors, monomial_factorial
from spotheights.monomials import monomials_of_degree, monomials_up_to


def all_of_degree(dimension, degree):
    """All monomials of the degree, with the larger exponent of the first variable that differs first."""
    found = [place for place in itertools.product(range(degree + 1), repeat=dimension) if sum(place) == degree]
    return sorted(found, reverse=True)


class Lists(unittest.TestCase):

    def test_example(self):
        self.assertEqual(monomials_of_degree(3, 2),
                         [(2, 0, 0), (1, 1, 0), (1, 0, 1), (0, 2, 0), (0, 1, 1), (0, 0, 2)])

    def test_all_of_each_degree_in_order(self):
        for dimension in [1, 2, 3]:
            for degree in range(17):
                found = monomials_of_degree(dimension, degree)
                self.assertIsInstance(found, list)
                self.assertEqual(found, all_of_degree(dimension, degree))

    def test_beyond_the_degrees(self):
        for dimension in [1, 2, 3]:
            self.assertEqual(monomials_of_degree(dimension, -1), [])
            self.assertEqual(len(monomials_of_degree(dimension, 17)), math.comb(16 + dimension, dimension - 1))

    def test_wrong_dimensions(self):
        for dimension in [0, 4, -1]:
            with self.subTest(dimension), self.assertRaises(WrongDimension):
                monomials_of_degree(dimension, 2)

    def test_each_list_is_new(self):
        monomials_of_degree(2, 1).append("more")
        self.assertEqual(monomials_of_degree(2, 1), [(1, 0), (0, 1)])


class Generated(unittest.TestCase):

    def test_it_is_a_generator(self):
        self.assertTrue(inspect.isgenerator(monomials_up_to(2, 3)))

    def test_the_standard_order_of_two_variables(self):
        self.assertEqual(list(monomials_up_to(2, 3))[:7], [(0, 0), (1, 0), (0, 1), (2, 0), (1, 1), (0, 2), (3, 0)])

    def test_all_up_to_a_degree(self):
        for dimension in [1, 2, 3]:
            for degree in [-1, 0, 1, 4, 16]:
                wanted = [place for k in range(degree + 1) for place in all_of_degree(dimension, k)]
                self.assertEqual(list(monomials_up_to(dimension, degree)), wanted)

    def test_errors_come_with_the_iteration(self):
        for dimension in [0, 4, -1]:
            for degree in [-1, 2]:
                waiting = monomials_up_to(dimension, degree)
                with self.assertRaises(WrongDimension):
                    next(waiting)


class Pairs(unittest.TestCase):

    def test_the_order_is_that_of_the_list(self):
        for dimension in [1, 2, 3]:
            places = list(monomials_up_to(dimension, 4))
            for i, first in enumerate(places):
                for k, second in enumerate(places):
                    self.assertIs(comes_before(first, second), i < k)

    def test_divides(self):
        for dimension in [1, 2, 3]:
            places = list(monomials_up_to(dimension, 3))
            for first in places:
                for second in places:
                    wanted = all(low <= high for low, high in zip(first, second))
                    self.assertIs(divides(first, second), wanted)

    def test_some_by_hand(self):
        self.assertIs(divides((1, 0), (1, 2)), True)
        self.assertIs(divides((1, 2), (1, 0)), False)
        self.assertIs(divides((0, 0, 0), (0, 0, 0)), True)
        self.assertIs(divides((2, 0), (1, 5)), False)
        self.assertIs(comes_before((0, 2), (3, 0)), True)
        self.assertIs(comes_before((1, 1), (0, 2)), True)
        self.assertIs(comes_before((0, 2), (0, 2)), False)

    def test_wrong_lengths(self):
        for first, second in [((), ()), ((), (1,)), ((1,), ()), ((1,), (1, 2)), ((1, 2, 3), (1, 2)),
                              ((1, 2, 3, 4), (1, 2, 3, 4)), ((1, 2, 3), (1, 2, 3, 4))]:
            for function in [comes_before, divides]:
                with self.subTest(str(first) + str(second)), self.assertRaises(WrongDimension):
                    function(first, second)


class Factorials(unittest.TestCase):

    def test_products(self):
        self.assertEqual(monomial_factorial((0,)), 1)
        self.assertEqual(monomial_factorial((0, 0, 0)), 1)
        self.assertEqual(monomial_factorial((3, 2)), 12)
        self.assertEqual(monomial_factorial((2, 3, 4)), 288)
        self.assertEqual(monomial_factorial((16,)), math.factorial(16))

    def test_wrong_lengths(self):
        for exponents in [(), (1, 1, 1, 1)]:
            with self.assertRaises(WrongDimension):
                monomial_factorial(exponents)


class Divisors(unittest.TestCase):

    def test_all_divisors(self):
        for places, wanted in [([], True), ([(0, 0)], True), ([(1, 0)], False), ([(1, 0), (0, 0)], True),
                               ([(0, 0), (1, 1), (1, 0), (0, 1)], True), ([(0, 0), (1, 1), (1, 0)], False),
                               ([(0,), (2,)], False), ([(2,), (0,), (1,), (1,)], True), ([(0, 0, 0), (0, 0, 1)], True)]:
            self.assertIs(has_all_divisors(places), wanted)


if __name__ == "__main__":
    unittest.main()

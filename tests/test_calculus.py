import unittest
from math import factorial

from spotheights.calculus import all_derivatives, apply_operator, derivative, pairing
from spotheights.errors import BadIndex, WrongDimension
from spotheights.monomials import monomials_up_to
from spotheights.polynomials import Polynomial
from spotheights.ratios import Ratio
from tests.helpers import Drawn, poly


class Derivatives(unittest.TestCase):

    def test_by_hand(self):
        found = poly("1 - x + 3/2 x y^2")
        self.assertEqual(str(derivative(found, 0)), "-1 + 3/2 y^2")
        self.assertEqual(str(derivative(found, 1)), "3 x y")
        self.assertEqual(str(derivative(poly("x + z^16", 3), 2)), "16 z^15")
        self.assertEqual(derivative(poly("5"), 0), poly("0"))
        self.assertEqual(derivative(poly("0", 3), 2), poly("0", 3))

    def test_all_monomials(self):
        for dimension in [1, 2, 3]:
            for place in monomials_up_to(dimension, 5):
                for k in range(dimension):
                    lower = list(place)
                    lower[k] -= 1
                    wanted = Polynomial(dimension, [(tuple(lower), Ratio(place[k]))] if place[k] else [])
                    self.assertEqual(derivative(Polynomial.monomial(place), k), wanted)

    def test_indexes(self):
        for dimension in [1, 2, 3]:
            for index in [-1, dimension, 99]:
                for text in ["0", "x"]:
                    with self.assertRaises(BadIndex):
                        derivative(poly(text, dimension), index)

    def test_the_argument_does_not_change(self):
        found = poly("x^2 y")
        derivative(found, 0), apply_operator(found, found), pairing(found, found)
        self.assertEqual(str(found), "x^2 y")


class Operators(unittest.TestCase):

    def test_monomials(self):
        for rule in monomials_up_to(2, 4):
            for place in monomials_up_to(2, 5):
                wanted = Polynomial.zero(2)
                left = (place[0] - rule[0], place[1] - rule[1])
                if left[0] >= 0 and left[1] >= 0:
                    times = Ratio(factorial(place[0]) * factorial(place[1]), factorial(left[0]) * factorial(left[1]))
                    wanted = Polynomial(2, [(left, times)])
                self.assertEqual(apply_operator(Polynomial.monomial(rule), Polynomial.monomial(place)), wanted)

    def test_an_operator_is_a_sum_of_derivatives(self):
        drawn = Drawn(4)
        for dimension in [1, 2, 3]:
            for _ in range(15):
                rule, found = drawn.polynomial(dimension, 4), drawn.polynomial(dimension, 7, 9)
                wanted = Polynomial.zero(dimension)
                for place, number in rule.terms():
                    part = found
                    for k in range(dimension):
                        for _ in range(place[k]):
                            part = derivative(part, k)
                    wanted = wanted + part * number
                self.assertEqual(apply_operator(rule, found), wanted)

    def test_by_hand(self):
        self.assertEqual(str(apply_operator(poly("1 + x"), poly("y + x^2"))), "2 x + y + x^2")
        self.assertEqual(str(apply_operator(poly("-y + 1/2 x^2"), poly("x^3 y"))), "3 x y - x^3")
        self.assertEqual(apply_operator(poly("0"), poly("x")), poly("0"))
        self.assertEqual(apply_operator(poly("x"), poly("0")), poly("0"))

    def test_degree_8(self):
        self.assertEqual(str(apply_operator(poly("x^8"), poly("x^8"))), "40320")
        self.assertEqual(str(apply_operator(poly("x^7"), poly("x^8 - y^8"))), "40320 x")

    def test_unlike_dimensions(self):
        for first, second in [(1, 2), (2, 1), (3, 2)]:
            for text in ["0", "x"]:
                for function in [apply_operator, pairing]:
                    with self.assertRaises(WrongDimension):
                        function(poly(text, first), poly("x", second))


class Pairings(unittest.TestCase):

    def test_by_hand(self):
        self.assertEqual(str(pairing(poly("1 + x - 1/3 x^2 y"), poly("2 - y + 5 x^2 y"))), "-4/3")
        self.assertEqual(str(pairing(poly("x^3"), poly("x^3"))), "6")
        self.assertIsInstance(pairing(poly("0"), poly("x")), Ratio)
        self.assertEqual(pairing(poly("0"), poly("x")), 0)
        self.assertEqual(pairing(poly("x y"), poly("x^2 + y^2")), 0)

    def test_it_is_the_value_at_the_origin(self):
        drawn = Drawn(9)
        for dimension in [1, 2, 3]:
            for _ in range(20):
                first, second = drawn.polynomial(dimension, 4, 9), drawn.polynomial(dimension, 4, 9)
                found = pairing(first, second)
                self.assertEqual(found, apply_operator(first, second)([Ratio(0)] * dimension))
                self.assertEqual(found, pairing(second, first))
                self.assertEqual(pairing(first, first).sign(), 1 if first else 0)


class AllDerivatives(unittest.TestCase):

    def test_by_hand(self):
        found = all_derivatives(poly("-3 y + x y"))
        self.assertEqual([str(one) for one in found], ["-3 y + x y", "y", "-3 + x", "0", "1", "0"])
        self.assertEqual(all_derivatives(poly("0", 1)), [])
        self.assertEqual(all_derivatives(poly("5", 3)), [poly("5", 3)])
        self.assertEqual([str(one) for one in all_derivatives(poly("x^4", 1))], ["x^4", "4 x^3", "12 x^2", "24 x", "24"])


if __name__ == "__main__":
    unittest.main()

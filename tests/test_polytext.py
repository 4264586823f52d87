import unittest

from spotheights.errors import BadPolynomial, BadText, WrongDimension
from spotheights.monomials import monomials_up_to
from spotheights.polynomials import Polynomial
from spotheights.polytext import read_polynomial
from spotheights.ratios import Ratio
from tests.helpers import Drawn

NINES = "9" * 60


class Reading(unittest.TestCase):

    def assert_refused(self, text, dimension=2):
        with self.assertRaises(BadPolynomial) as caught:
            read_polynomial(text, dimension)
        self.assertIsInstance(caught.exception, BadText)
        self.assertEqual(caught.exception.text, text)

    def test_examples(self):
        self.assertEqual(read_polynomial("1 - x + 3/2 x y^2", 2).terms()[2][0], (1, 2))
        self.assert_refused("x + 1")

    def test_written_forms_are_read(self):
        for dimension, text in [(1, "0"), (2, "0"), (3, "0"), (1, "1"), (1, "-1"), (1, "-x"), (1, "x^16"), (2, "y"),
                                (2, "-1/2 + x - y + 7 x y^15"), (3, "-1/2 + z^3"), (3, "x y z - 12/7 z^3"),
                                (3, "x^14 y z"), (2, "2 x"), (2, "-2/3 y^2")]:
            found = read_polynomial(text, dimension)
            self.assertEqual(str(found), text)
            self.assertEqual(found.dimension, dimension)

    def test_terms_that_are_read(self):
        found = read_polynomial("-1/2 + 3 x - y^2 z", 3)
        self.assertEqual(found, Polynomial(3, [((0, 0, 0), Ratio(-1, 2)), ((1, 0, 0), Ratio(3)),
                                               ((0, 2, 1), Ratio(-1))]))

    def test_what_is_written_is_read(self):
        drawn = Drawn(2)
        for dimension in [1, 2, 3]:
            for _ in range(60):
                found = drawn.polynomial(dimension, drawn.integer(0, 16), drawn.integer(0, 9), 10 ** 6)
                self.assertEqual(read_polynomial(str(found), dimension), found)

    def test_the_longest_written_form(self):
        number = Ratio(-(10 ** 60 - 1), 10 ** 60 - 2)
        found = Polynomial(3, [(place, number) for place in monomials_up_to(3, 16)])
        self.assertEqual(read_polynomial(str(found), 3), found)

    def test_sixty_digits(self):
        for text in [NINES, "-" + NINES, NINES + "/1" + "0" * 59, "1 - " + NINES + " x y", "-1/" + NINES + " x"]:
            self.assertEqual(str(read_polynomial(text, 2)), text)
        for text in ["1" + NINES, "-1" + NINES + " x", "1/1" + NINES, "1 + 1/1" + NINES + " x", "x - 1" + NINES + " y"]:
            self.assert_refused(text)

    def test_wrong_order_and_repeated_terms(self):
        for text in ["x + 1", "y + x", "x^2 + y", "y^2 + x y", "x + x", "x - x", "1 + 1", "x + 2 x", "x y + x^2"]:
            self.assert_refused(text)

    def test_numbers_that_are_not_written_so(self):
        for text in ["1 x", "-1 x", "0 x", "x + 0", "x + 0 y", "0 + x", "-0", "00", "01", "2/4", "4/2 x", "3/1 x", "+1",
                     "1/0", "1/0 x", "0/1", "1 + -x", "1 - -x", "1 + -2 x", "--x", "1 -2 x", "2x", "2 1", "2 3 x",
                     "1.5", "x 2", "x 2 y", "1_0 x"]:
            self.assert_refused(text)

    def test_monomials_that_are_not_written_so(self):
        for text in ["x^1", "x^0", "x^01", "x^", "x^-1", "x^+2", "^2", "x^2^2", "x^x", "y x", "x x", "x^2 x", "xy",
                     "x*y", "X", "a", "z", "x z", "x^2y", "x ^2", "x^ 2", "x^1/2", "x^\u0662", "x^\u00b2", "\uff58"]:
            self.assert_refused(text)

    def test_blanks_and_signs(self):
        for text in ["", " ", "-", "+", "- x", " x", "x ", "x  + y", "x +  y", "x+y", "x +y", "x+ y", "x + ", " + x",
                     "+ x", "x +", "x -", "x + + y", "x + - y", "-", "- ", "x\n", "x\ty", "x\u00a0y", "x + y\x00"]:
            self.assert_refused(text)

    def test_variables_of_the_dimension(self):
        self.assert_refused("y", 1)
        self.assert_refused("x + z", 2)
        self.assertEqual(str(read_polynomial("z", 3)), "z")

    def test_degrees(self):
        for text in ["x^17", "x^16 y", "1 + x^9 y^8", "x^99", "x^100", "x^" + "9" * 6000]:
            self.assert_refused(text)
        self.assertEqual(read_polynomial("x^8 y^8", 2).degree, 16)

    def test_long_texts(self):
        for text in ["1" * 5000, "x + " * 50000 + "x", "1/" + "3" * 9000 + " x", " " * 100000, "-" * 100000,
                     "x " * 70000, "+ " * 70000, "x^" * 70000, "x + " + "y" * 200000]:
            with self.subTest(text[:6]):
                self.assert_refused(text)

    def test_wrong_dimensions_come_first(self):
        for dimension in [0, 4, -1]:
            for text in ["x", "no polynomial", "", "1" * 5000]:
                with self.assertRaises(WrongDimension):
                    read_polynomial(text, dimension)


if __name__ == "__main__":
    unittest.main()

import unittest
from fractions import Fraction

from spotheights.errors import BadNumber, BadText, ZeroDivisor
from spotheights.ratios import Ratio, compare, total
from tests.helpers import Drawn, fraction

SMALL = [(0, 1), (1, 1), (-1, 1), (2, 3), (-2, 3), (7, 2), (-9, 4), (12, 1), (5, 6), (1, 999)]


class Making(unittest.TestCase):

    def assert_parts(self, number, top, bottom):
        self.assertIsInstance(number, Ratio)
        self.assertEqual((number.top, number.bottom), (top, bottom))

    def test_lowest_terms_and_sign(self):
        self.assert_parts(Ratio(6, 4), 3, 2)
        self.assert_parts(Ratio(-6, 4), -3, 2)
        self.assert_parts(Ratio(6, -4), -3, 2)
        self.assert_parts(Ratio(-6, -4), 3, 2)
        self.assert_parts(Ratio(5), 5, 1)
        self.assert_parts(Ratio(top=8, bottom=-2), -4, 1)

    def test_zero_is_zero_over_one(self):
        self.assert_parts(Ratio(0), 0, 1)
        self.assert_parts(Ratio(0, 17), 0, 1)
        self.assert_parts(Ratio(0, -17), 0, 1)

    def test_zero_bottom(self):
        for top in [0, 1, -3]:
            with self.subTest(top), self.assertRaises(ZeroDivisor):
                Ratio(top, 0)

    def test_long_numbers(self):
        big = 10 ** 7000 + 1
        self.assert_parts(Ratio(3 * big, -2 * big), -3, 2)


class Arithmetic(unittest.TestCase):

    def assert_value(self, number, value):
        self.assertIsInstance(number, Ratio)
        self.assertEqual((number.top, number.bottom), (value.numerator, value.denominator))

    def test_two_ratios(self):
        for a in SMALL:
            for b in SMALL:
                with self.subTest(a=a, b=b):
                    first, second, one, two = Ratio(*a), Ratio(*b), Fraction(*a), Fraction(*b)
                    self.assert_value(first + second, one + two)
                    self.assert_value(first - second, one - two)
                    self.assert_value(first * second, one * two)
                    if two:
                        self.assert_value(first.over(second), one / two)

    def test_a_ratio_and_an_integer_on_either_side(self):
        for a in SMALL:
            for whole in [0, 1, -1, 6, -35]:
                with self.subTest(a=a, whole=whole):
                    number, value = Ratio(*a), Fraction(*a)
                    self.assert_value(number + whole, value + whole)
                    self.assert_value(whole + number, value + whole)
                    self.assert_value(number - whole, value - whole)
                    self.assert_value(whole - number, whole - value)
                    self.assert_value(number * whole, value * whole)
                    self.assert_value(whole * number, value * whole)
                    if whole:
                        self.assert_value(number.over(whole), value / whole)

    def test_negative_and_absolute_value(self):
        for a in SMALL:
            self.assert_value(-Ratio(*a), -Fraction(*a))
            self.assert_value(abs(Ratio(*a)), abs(Fraction(*a)))

    def test_operands_do_not_change(self):
        first, second = Ratio(2, 3), Ratio(-5, 6)
        first + second, first - second, first * second, -first, abs(second), first.over(second), 2 - first
        self.assertEqual((first.top, first.bottom, second.top, second.bottom), (2, 3, -5, 6))

    def test_over_zero(self):
        for zero in [0, Ratio(0), Ratio(0, 5)]:
            for number in [Ratio(0), Ratio(3, 2)]:
                with self.assertRaises(ZeroDivisor):
                    number.over(zero)

    def test_truth(self):
        self.assertIs(bool(Ratio(0)), False)
        self.assertIs(bool(Ratio(0, 7)), False)
        for number in [Ratio(1), Ratio(-1), Ratio(1, 999)]:
            self.assertIs(bool(number), True)

    def test_sign(self):
        self.assertEqual([Ratio(top, 3).sign() for top in [-5, -1, 0, 1, 7]], [-1, -1, 0, 1, 1])

    def test_total(self):
        drawn = Drawn(3)
        for many in range(12):
            row = drawn.row(many)
            self.assert_value(total(row), sum([fraction(number) for number in row], Fraction(0)))
            self.assertEqual(len(row), many)


class Comparing(unittest.TestCase):

    def test_equal_values(self):
        self.assertTrue(Ratio(2, 4) == Ratio(-1, -2))
        self.assertFalse(Ratio(2, 4) != Ratio(1, 2))
        self.assertFalse(Ratio(1, 2) == Ratio(1, 3))
        self.assertFalse(Ratio(1, 2) == Ratio(-1, 2))
        self.assertTrue(Ratio(1, 2) != Ratio(3, 2))

    def test_integers(self):
        self.assertTrue(Ratio(6, 2) == 3)
        self.assertTrue(3 == Ratio(6, 2))
        self.assertTrue(Ratio(0) == 0)
        self.assertFalse(Ratio(7, 2) == 7)
        self.assertFalse(Ratio(7, 2) == 3)
        self.assertFalse(7 == Ratio(-7))

    def test_other_things(self):
        for other in ["1", None, [1], (1, 1)]:
            self.assertIs(Ratio(1) == other, False)
            self.assertIs(Ratio(1) != other, True)

    def test_compare(self):
        for a in SMALL:
            for b in SMALL:
                one, two = Fraction(*a), Fraction(*b)
                self.assertEqual(compare(Ratio(*a), Ratio(*b)), (one > two) - (one < two))


class Writing(unittest.TestCase):

    def test_written_forms(self):
        for top, bottom, text in [(-7, 2, "-7/2"), (0, 5, "0"), (12, 1, "12"), (-12, 1, "-12"), (9, -6, "-3/2"),
                                  (1, 1, "1"), (1, 60, "1/60")]:
            self.assertEqual(str(Ratio(top, bottom)), text)

    def test_example(self):
        self.assertEqual(str(2 - Ratio(9, -6)), "7/2")

    def test_long_integers(self):
        for many in [1, 59, 63, 64, 65, 127, 128, 129, 255, 256, 640, 4299, 4300, 4301, 5000, 20000]:
            with self.subTest(many):
                power = 10 ** many
                self.assertEqual(str(Ratio(power)), "1" + "0" * many)
                self.assertEqual(str(Ratio(power - 1)), "9" * many)
                self.assertEqual(str(Ratio(-power)), "-1" + "0" * many)
                self.assertEqual(str(Ratio(1 - power)), "-" + "9" * many)
                self.assertEqual(str(Ratio(70 * power + 21)), "7" + "0" * (many - 1) + "21")

    def test_all_digits_in_their_places(self):
        digits = "".join([str((k * k + 3 * k) % 10) for k in range(6001)]).lstrip("0")
        number = 0
        for digit in digits:
            number = 10 * number + int(digit)
        self.assertEqual(str(Ratio(number)), digits)
        self.assertEqual(str(Ratio(-number)), "-" + digits)
        self.assertEqual(str(Ratio(-1, number)), "-1/" + digits)

    def test_long_tops_and_bottoms(self):
        self.assertEqual(str(Ratio(10 ** 5000 + 1, 10 ** 5000)), "1" + "0" * 4999 + "1/1" + "0" * 5000)
        self.assertEqual(str(Ratio(-(10 ** 9000), 3)), "-1" + "0" * 9000 + "/3")


class Reading(unittest.TestCase):

    def assert_refused(self, text):
        with self.assertRaises(BadNumber) as caught:
            Ratio.read(text)
        self.assertIsInstance(caught.exception, BadText)
        self.assertEqual(caught.exception.text, text)

    def test_written_forms_are_read(self):
        for a in SMALL:
            number = Ratio.read(str(Ratio(*a)))
            self.assertEqual((number.top, number.bottom), a)

    def test_sixty_digits(self):
        nines, power = "9" * 60, "1" + "0" * 59
        self.assertEqual(Ratio.read(nines).top, 10 ** 60 - 1)
        self.assertEqual(Ratio.read("-" + nines).top, 1 - 10 ** 60)
        number = Ratio.read("-" + nines + "/" + power)
        self.assertEqual((number.top, number.bottom), (1 - 10 ** 60, 10 ** 59))

    def test_sixty_one_digits(self):
        for text in ["1" + "0" * 60, "-1" + "0" * 60, "1/1" + "0" * 60, "1" + "0" * 60 + "/3"]:
            self.assert_refused(text)

    def test_other_texts(self):
        for text in ["", " ", "-", "+", "/", "x", "+1", "-0", "00", "01", "-01", "0/1", "0/5", "-0/5", "3/1", "4/2",
                     "6/4", "-6/4", "1/0", "0/0", "1/-2", "-1/-2", "1/", "/2", "1/02", "1//2", "1/2/3", " 1", "1 ",
                     "1 /2", "1/ 2", "--1", "1-", "1_000", "1,5", "1.5", "1e3", "0x10", "1\n", "\n1", "1\t", "- 1",
                     "\u0663", "\u00b2", "1/\u0663", "\uff11", "1\u00a0", "\u2212" + "1", "1\x00"]:
            with self.subTest(repr(text)):
                self.assert_refused(text)

    def test_long_texts(self):
        for text in ["1" * 5000, "-" + "9" * 100000, "1/" + "3" * 5000, "0" * 70000, "-" * 50000, "1/2" * 9999,
                     " " * 80000, "9" * 5000 + "/" + "7" * 5000]:
            with self.subTest(text[:5]):
                self.assert_refused(text)

    def test_example(self):
        self.assert_refused("6/4")

    def test_what_is_read_is_what_is_written(self):
        drawn = Drawn(5)
        for _ in range(200):
            number = drawn.ratio(10 ** 18)
            self.assertEqual(Ratio.read(str(number)), number)


if __name__ == "__main__":
    unittest.main()

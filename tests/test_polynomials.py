import unittest
from fractions import Fraction

from spotheights.errors import BadIndex, BadMonomial, TooLarge, WrongDimension
from spotheights.monomials import monomials_up_to
from spotheights.polynomials import Polynomial, combination
from spotheights.ratios import Ratio
from tests.helpers import Drawn, fraction, poly, ratios, texts


def values(polynomial):
    """The terms as a dict, made of Python's own numbers."""
    return {place: fraction(number) for place, number in polynomial.terms()}


class Making(unittest.TestCase):

    def test_terms_are_in_the_standard_order(self):
        places = list(monomials_up_to(3, 4))
        found = Polynomial(3, [(place, Ratio(1)) for place in places[::-1]])
        self.assertEqual([place for place, number in found.terms()], places)

    def test_numbers_at_the_same_exponents_are_added_and_zeros_vanish(self):
        found = Polynomial(2, [((1, 0), Ratio(1, 2)), ((0, 0), Ratio(0)), ((1, 0), Ratio(1, 3)), ((0, 2), Ratio(1)),
                               ((0, 2), Ratio(-1))])
        self.assertEqual(values(found), {(1, 0): Fraction(5, 6)})

    def test_kinds_of_values(self):
        terms = Polynomial(2, ([(0, 1), Ratio(3)], ((2, 0), Ratio(1, 2)))).terms()
        self.assertIsInstance(terms, list)
        for pair in terms:
            self.assertIsInstance(pair, tuple)
            self.assertIsInstance(pair[0], tuple)
            self.assertIsInstance(pair[1], Ratio)

    def test_without_terms(self):
        for zero in [Polynomial(2), Polynomial(2, []), Polynomial(2, ()), Polynomial(dimension=2, terms=[])]:
            self.assertEqual(zero.terms(), [])
            self.assertEqual(zero.dimension, 2)

    def test_wrong_dimensions(self):
        for dimension in [0, 4, -1]:
            for terms in [[], [((1,), Ratio(1))], [((-1,) * max(dimension, 0), Ratio(1))]]:
                with self.subTest(dimension), self.assertRaises(WrongDimension):
                    Polynomial(dimension, terms)

    def test_bad_terms(self):
        for exponents, error in [
            ((1,), WrongDimension), ((), WrongDimension), ((1, 2, 3), WrongDimension), ((-1, 2, 30), WrongDimension),
            ((-1, 0), BadMonomial), ((0, -1), BadMonomial), ((-1, 40), BadMonomial), ((17, -1), BadMonomial),
            ((17, 0), TooLarge), ((9, 8), TooLarge), ((10 ** 30, 0), TooLarge),
        ]:
            for number in [Ratio(1), Ratio(0)]:
                with self.subTest(str(exponents)), self.assertRaises(error):
                    Polynomial(2, [((0, 0), Ratio(1)), (exponents, number)])

    def test_the_first_bad_term_is_the_one(self):
        bad = [((1,), Ratio(1)), ((-1, 0), Ratio(1)), ((17, 0), Ratio(1))]
        for first, error in zip(bad, [WrongDimension, BadMonomial, TooLarge]):
            for second in bad:
                with self.assertRaises(error):
                    Polynomial(2, [((0, 0), Ratio(1)), first, second])

    def test_degree_16_is_the_greatest(self):
        for place in [(16, 0), (0, 16), (8, 8)]:
            self.assertEqual(Polynomial(2, [(place, Ratio(1))]).degree, 16)

    def test_what_was_passed_is_copied_and_unchanged(self):
        terms = [((1, 0), Ratio(2)), ((0, 0), Ratio(1)), ((1, 0), Ratio(0))]
        before = list(terms)
        found = Polynomial(2, terms)
        self.assertEqual(terms, before)
        terms.clear()
        self.assertEqual(str(found), "1 + 2 x")

    def test_the_list_of_terms_is_new(self):
        found = poly("1 + x")
        found.terms().clear()
        self.assertEqual(len(found.terms()), 2)
        self.assertEqual(str(found), "1 + x")


class Asking(unittest.TestCase):

    def test_degrees_and_head(self):
        for text, degree, low, head in [("0", -1, -1, None), ("5", 0, 0, (0, 0)), ("x^2 - x y", 2, 2, (1, 1)),
                                        ("y + x^3", 3, 1, (3, 0)), ("x^16", 16, 16, (16, 0)),
                                        ("x + x^2 + y^2", 2, 1, (0, 2))]:
            found = poly(text)
            self.assertEqual((found.degree, found.low_degree, found.head()), (degree, low, head))

    def test_degrees_are_properties(self):
        self.assertIsInstance(Polynomial.degree, property)
        self.assertIsInstance(Polynomial.low_degree, property)

    def test_coefficients(self):
        found = poly("1 - x + 3/2 x y^2")
        self.assertEqual(texts([found.coefficient(place) for place in [(0, 0), (1, 0), (0, 1), (1, 2), (9, 9)]]),
                         ["1", "-1", "0", "3/2", "0"])
        self.assertIsInstance(found.coefficient((5, 5)), Ratio)
        self.assertEqual(found.coefficient([1, 0]), -1)
        for exponents in [(), (1,), (1, 0, 0)]:
            with self.assertRaises(WrongDimension):
                found.coefficient(exponents)

    def test_parts(self):
        found = poly("2 - x + y + 3 x y - y^2")
        self.assertEqual(texts([found.part(k) for k in [-1, 0, 1, 2, 3, 17]]),
                         ["0", "2", "-x + y", "3 x y - y^2", "0", "0"])
        self.assertEqual(str(found.top_part()), "3 x y - y^2")
        self.assertEqual(str(found.lowest_part()), "2")
        self.assertEqual(str(poly("x + y^3").lowest_part()), "x")
        zero = Polynomial.zero(3)
        for part in [zero.top_part(), zero.lowest_part(), zero.part(0), zero.part(-1)]:
            self.assertEqual(part, zero)

    def test_homogeneous(self):
        for text, wanted in [("0", True), ("7", True), ("x - 2 y", True), ("x^2 + x y", True), ("1 + x", False),
                             ("x + x y", False)]:
            self.assertIs(poly(text).is_homogeneous(), wanted)

    def test_values(self):
        self.assertEqual(str(poly("1 - x + 3/2 x y^2")(ratios("2 -1/3"))), "-2/3")
        self.assertEqual(poly("1 - x")(tuple(ratios("1 5"))), 0)
        self.assertIsInstance(Polynomial.zero(1)(ratios("3")), Ratio)
        self.assertEqual(Polynomial.zero(1)(ratios("3")), 0)
        self.assertEqual(poly("5")(ratios("0 0")), 5)
        self.assertEqual(poly("z^16", 3)(ratios("0 0 -2")), 65536)

    def test_values_of_many(self):
        drawn = Drawn(11)
        for dimension in [1, 2, 3]:
            for _ in range(20):
                found, spot = drawn.polynomial(dimension, 6), drawn.row(dimension)
                wanted = Fraction(0)
                for place, number in values(found).items():
                    for coordinate, exponent in zip(spot, place):
                        number = number * fraction(coordinate) ** exponent
                    wanted += number
                self.assertEqual(fraction(found(spot)), wanted)

    def test_values_at_wrong_spots(self):
        for dimension, spot in [(1, []), (2, ratios("1")), (2, ratios("1 2 3")), (3, ratios("1 2"))]:
            for found in [Polynomial.zero(dimension), Polynomial.constant(dimension, Ratio(1))]:
                with self.assertRaises(WrongDimension):
                    found(spot)


class Arithmetic(unittest.TestCase):

    def test_sums_differences_products(self):
        drawn = Drawn(7)
        for dimension in [1, 2, 3]:
            for _ in range(25):
                first, second = drawn.polynomial(dimension, 4, 5), drawn.polynomial(dimension, 5, 5)
                spot = drawn.row(dimension, 5)
                self.assertEqual((first + second)(spot), first(spot) + second(spot))
                self.assertEqual((first - second)(spot), first(spot) - second(spot))
                self.assertEqual((first * second)(spot), first(spot) * second(spot))
                self.assertEqual((-first)(spot), -first(spot))

    def test_by_hand(self):
        first, second = poly("1 + x"), poly("1 - x + y")
        self.assertEqual(str(first + second), "2 + y")
        self.assertEqual(str(first - second), "2 x - y")
        self.assertEqual(str(first * second), "1 + y - x^2 + x y")
        self.assertEqual(str(-second), "-1 + x - y")
        self.assertEqual(str(first - first), "0")

    def test_products_with_numbers(self):
        found = poly("2 - x y")
        for product in [found * Ratio(-1, 2), Ratio(-1, 2) * found]:
            self.assertEqual(str(product), "-1 + 1/2 x y")
        for product in [found * 3, 3 * found]:
            self.assertEqual(str(product), "6 - 3 x y")
        for product in [found * 0, 0 * found, found * Ratio(0), Ratio(0) * found]:
            self.assertEqual(product, Polynomial.zero(2))

    def test_products_up_to_degree_16(self):
        first, second, zero = poly("1 + x^8"), poly("y^8"), poly("0")
        self.assertEqual(str(first * second), "y^8 + x^8 y^8")
        self.assertEqual((poly("x^16") * poly("3")).degree, 16)
        for low, high in [("x^8", "y^9"), ("x^16", "1 + y"), ("x", "x^16"), ("y^16", "x^16")]:
            with self.assertRaises(TooLarge):
                poly(low) * poly(high)
        self.assertEqual(poly("x^16") * zero, zero)
        self.assertEqual(zero * poly("x^16"), zero)
        self.assertEqual(zero * zero, zero)

    def test_unlike_dimensions(self):
        for first, second in [(poly("x", 1), poly("x", 2)), (poly("0", 3), poly("x", 2)), (poly("0", 1), poly("0", 2)),
                              (poly("x^16", 1), poly("y^16", 2))]:
            for action in [lambda p, q: p + q, lambda p, q: p - q, lambda p, q: p * q]:
                with self.assertRaises(WrongDimension):
                    action(first, second)

    def test_operands_do_not_change(self):
        first, second = poly("1 + x"), poly("1 - x + y")
        first + second, first - second, first * second, -first, 2 * first, first * Ratio(1, 2)
        self.assertEqual(texts([first, second]), ["1 + x", "1 - x + y"])

    def test_equality_and_truth(self):
        self.assertTrue(poly("1 + x") == Polynomial(2, [((1, 0), Ratio(1)), ((0, 0), Ratio(2, 2))]))
        self.assertFalse(poly("1 + x") == poly("1 - x"))
        self.assertFalse(poly("1 + x") == poly("1 + x + y"))
        self.assertFalse(poly("1 + x") == poly("1 + y"))
        self.assertFalse(poly("1 + x", 1) == poly("1 + x", 2))
        self.assertFalse(poly("0", 1) == poly("0", 2))
        self.assertTrue(poly("0", 1) != poly("0", 3))
        self.assertIs(poly("0") == 0, False)
        self.assertIs(poly("1") == Ratio(1), False)
        self.assertIs(bool(poly("0")), False)
        self.assertIs(bool(poly("x")), True)
        self.assertIs(bool(poly("-1/2")), True)


class ClassMethods(unittest.TestCase):

    def test_made(self):
        self.assertEqual(str(Polynomial.zero(1)), "0")
        self.assertEqual(str(Polynomial.constant(2, Ratio(-3, 2))), "-3/2")
        self.assertEqual(Polynomial.constant(3, Ratio(0)), Polynomial.zero(3))
        self.assertEqual(texts([Polynomial.coordinate(3, k) for k in range(3)]), ["x", "y", "z"])
        self.assertEqual(str(Polynomial.monomial((1, 0, 2))), "x z^2")
        self.assertEqual(str(Polynomial.monomial((0,))), "1")
        self.assertEqual([Polynomial.monomial((0,) * k).dimension for k in [1, 2, 3]], [1, 2, 3])

    def test_wrong_dimensions(self):
        for dimension in [0, 4, -1, 10 ** 20]:
            for make in [Polynomial.zero, lambda k: Polynomial.constant(k, Ratio(1)),
                         lambda k: Polynomial.coordinate(k, 0), lambda k: Polynomial.coordinate(k, 7)]:
                with self.assertRaises(WrongDimension):
                    make(dimension)
        for exponents in [(), (1, 1, 1, 1), (-1, 17, 0, 0)]:
            with self.assertRaises(WrongDimension):
                Polynomial.monomial(exponents)

    def test_indexes(self):
        for dimension in [1, 2, 3]:
            for index in [-1, dimension, 99]:
                with self.assertRaises(BadIndex):
                    Polynomial.coordinate(dimension, index)

    def test_bad_monomials(self):
        for exponents, error in [((-1,), BadMonomial), ((20, -1), BadMonomial), ((17,), TooLarge),
                                 ((16, 1, 0), TooLarge)]:
            with self.assertRaises(error):
                Polynomial.monomial(exponents)
        self.assertEqual(Polynomial.monomial((4, 4, 8)).degree, 16)


class Writing(unittest.TestCase):

    def written(self, dimension, *terms):
        return str(Polynomial(dimension, [(place, Ratio(*number)) for place, number in terms]))

    def test_examples(self):
        self.assertEqual(self.written(2, ((1, 2), (3, 2)), ((1, 0), (-1,)), ((0, 0), (1,))), "1 - x + 3/2 x y^2")
        self.assertEqual(self.written(1, ((1,), (-1,))), "-x")
        self.assertEqual(self.written(3, ((0, 0, 3), (1,)), ((0, 0, 0), (-1, 2))), "-1/2 + z^3")

    def test_signs_ones_and_zero(self):
        self.assertEqual(self.written(2), "0")
        self.assertEqual(self.written(2, ((0, 0), (1,))), "1")
        self.assertEqual(self.written(2, ((0, 0), (-1,))), "-1")
        self.assertEqual(self.written(2, ((1, 0), (1,)), ((0, 1), (1,))), "x + y")
        self.assertEqual(self.written(2, ((1, 0), (-1, 3)), ((0, 1), (-1,))), "-1/3 x - y")
        self.assertEqual(self.written(3, ((1, 1, 1), (-7,))), "-7 x y z")
        self.assertEqual(self.written(3, ((10, 1, 5), (7, 3))), "7/3 x^10 y z^5")

    def test_long_numbers(self):
        self.assertEqual(self.written(1, ((0,), (10 ** 6000,)), ((2,), (-1, 10 ** 5000))),
                         "1" + "0" * 6000 + " - 1/1" + "0" * 5000 + " x^2")


class Combinations(unittest.TestCase):

    def test_combinations(self):
        found = combination(2, [poly("1 + x"), poly("x - y^2"), poly("y")], ratios("2 -1/2 0"))
        self.assertEqual(str(found), "2 + 3/2 x + 1/2 y^2")
        self.assertEqual(combination(3, [], []), poly("0", 3))
        self.assertEqual(combination(1, [poly("x", 1), poly("x", 1)], ratios("1 -1")), poly("0", 1))


if __name__ == "__main__":
    unittest.main()

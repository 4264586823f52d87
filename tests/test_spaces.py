import unittest

from spotheights.calculus import pairing
from spotheights.errors import TooLarge, WrongDimension
from spotheights.leastspace import least_space
from spotheights.monomials import comes_before, monomials_up_to
from spotheights.polynomials import Polynomial
from spotheights.ratios import Ratio
from spotheights.spaces import Space
from spotheights.substitution import embedded
from tests.helpers import Drawn, many_lots, mixed, poly, ratio, space, span_size, texts


def drawn_spaces():
    """Lists of polynomials of one dimension: few and many, of low and high degree, with repetitions and zeros."""
    drawn = Drawn(17)
    for dimension in [1, 2, 3]:
        for many, degree, terms in [(0, 2, 3), (1, 3, 3), (2, 1, 2), (3, 2, 4), (5, 2, 5), (12, 3, 6), (12, 8, 30)]:
            polynomials = [drawn.polynomial(dimension, degree, terms, 9) for _ in range(many)]
            yield dimension, polynomials
            if many > 1:
                yield dimension, polynomials + [polynomials[0] * 3, polynomials[0] + polynomials[1], polynomials[0] * 0]


class Bases(unittest.TestCase):

    def assert_canonical(self, found):
        members = list(found)
        for member in members:
            self.assertIsInstance(member, Polynomial)
            self.assertEqual(member.coefficient(member.head()), 1)
            for other in members:
                if other != member:
                    self.assertEqual(other.coefficient(member.head()), 0)
        for first, second in zip(members, members[1:]):
            self.assertTrue(comes_before(first.head(), second.head()))

    def test_by_hand(self):
        for polynomials, basis in [
            (["1 + x", "1 - x"], ["1", "x"]), (["x", "2 x", "0"], ["x"]), (["x + y", "x - y"], ["x", "y"]),
            (["x - 3 y"], ["-1/3 x + y"]), (["1 + y", "x + y"], ["-1 + x", "1 + y"]),
            (["x y", "1 + x^2 - x y"], ["1 + x^2", "x y"]), (["-5 + x^2", "x^2 + y^2"], ["-5 + x^2", "5 + y^2"]),
            (["y^2", "x^2", "1", "x y"], ["1", "x^2", "x y", "y^2"]), (["0"], []), ([], []),
            (["1 + x + y^2", "2 + y^2"], ["-1 + x", "2 + y^2"]),
        ]:
            self.assertEqual(texts(space(*polynomials)), basis)

    def test_the_canonical_basis(self):
        for dimension, polynomials in drawn_spaces():
            found = Space(dimension, polynomials)
            self.assert_canonical(found)
            size = span_size(polynomials)
            self.assertEqual(len(found), size)
            self.assertEqual(span_size(polynomials + list(found)), size)

    def test_there_is_only_one(self):
        for dimension, polynomials in drawn_spaces():
            found = Space(dimension, polynomials)
            mixtures = [polynomials[0] * 2 + polynomials[k] * 3 for k in range(1, len(polynomials))] + polynomials[:1]
            for other in [Space(dimension, polynomials[::-1]), Space(dimension, list(found)),
                          Space(dimension, tuple(mixtures)), Space(dimension, [p * Ratio(-2, 3) for p in polynomials])]:
                self.assertTrue(found == other)
                self.assertEqual(texts(found), texts(other))

    def test_dimensions(self):
        for dimension in [0, -1, 4, 10 ** 20]:
            for polynomials in [[], [poly("x", 1)]]:
                with self.assertRaises(WrongDimension):
                    Space(dimension, polynomials)
        for other in [poly("x", 1), poly("0", 3)]:
            with self.assertRaises(WrongDimension):
                Space(2, [poly("x"), other])
            with self.assertRaises(WrongDimension):
                Space(2, [other])

    def test_copied(self):
        polynomials = [poly("x"), poly("1 + x")]
        found = Space(2, polynomials)
        polynomials.clear()
        list(found).clear()
        self.assertEqual((texts(found), found.dimension, len(found)), (["1", "x"], 2, 2))

    def test_the_largest_spaces(self):
        drawn = Drawn(3)
        for dimension in [1, 2, 3]:
            found = Space(dimension, [drawn.polynomial(dimension, 8, 200, 9) for _ in range(12)])
            self.assert_canonical(found)
            self.assertEqual(len(found), 9 if dimension == 1 else 12)

    def test_sixty_digits(self):
        numbers = [ratio(f"{10 ** 59 + 7 * k}/{10 ** 58 + 11 * k}") for k in range(1, 7)]
        found = Space(2, [mixed([poly("1"), poly("x y"), poly("y^2")], numbers[k:k + 3], 2) for k in range(2)])
        self.assert_canonical(found)
        self.assertEqual(len(found), 2)


class Counts(unittest.TestCase):

    def test_counts_and_degrees(self):
        for polynomials, counts, degree in [
            ([], [], -1), (["0"], [], -1), (["1"], [1], 0), (["x"], [0, 1], 1), (["1 + x", "x - y"], [0, 2], 1),
            (["x^2 + y^3", "1", "x^2"], [1, 0, 1, 1], 3), (["x^8", "1"], [1, 0, 0, 0, 0, 0, 0, 0, 1], 8),
        ]:
            found = space(*polynomials)
            self.assertEqual((found.counts(), found.degree, len(found)), (counts, degree, sum(counts)))

    def test_counts_are_new_lists(self):
        found = space("1", "x")
        found.counts().clear()
        self.assertEqual(found.counts(), [1, 1])

    def test_up_to(self):
        found = space("1 + x^2", "x^2 + x y", "x", "y^3")
        for degree, basis in [(-1, []), (-7, []), (0, []), (1, ["x"]), (2, ["x", "1 + x^2", "-1 + x y"]),
                              (3, texts(found)), (16, texts(found))]:
            self.assertEqual(texts(found.up_to(degree)), basis)
        self.assertEqual(space(dimension=3).up_to(5), Space(3))
        self.assertEqual(found.up_to(-1).dimension, 2)

    def test_the_combinations_of_low_degree(self):
        for dimension, polynomials in drawn_spaces():
            found = Space(dimension, polynomials)
            for degree in range(found.degree + 1):
                high = [mixed([], [], dimension) + Polynomial(dimension, [pair for pair in member.terms()
                        if sum(pair[0]) > degree]) for member in found]
                # So many combinations have no terms above the degree.
                self.assertEqual(len(found.up_to(degree)), len(found) - span_size(high))


class Belonging(unittest.TestCase):

    def test_by_hand(self):
        found = space("1 + x", "x y")
        self.assertIs(poly("2 + 2 x - 1/3 x y") in found, True)
        self.assertIs(poly("0") in found, True)
        for text in ["1", "x", "1 + x + y", "2 + x", "y^16"]:
            self.assertIs(poly(text) in found, False)
            self.assertIsNone(found.coordinates(poly(text)))
        self.assertEqual(texts(found.coordinates(poly("2 + 2 x - 1/3 x y"))), ["2", "-1/3"])
        self.assertEqual(found.coordinates(poly("0")), [0, 0])

    def test_the_zero_space(self):
        for dimension in [1, 2, 3]:
            found = Space(dimension)
            self.assertEqual((len(found), found.degree, found.counts(), list(found)), (0, -1, [], []))
            self.assertIs(poly("0", dimension) in found, True)
            self.assertIs(poly("1", dimension) in found, False)
            self.assertEqual(found.coordinates(poly("0", dimension)), [])
            self.assertIsNone(found.coordinates(poly("x", dimension)))
            self.assertEqual(found.projection(poly("1 + x", dimension)), poly("0", dimension))

    def test_combinations(self):
        drawn = Drawn(23)
        for dimension, polynomials in drawn_spaces():
            found = Space(dimension, polynomials)
            numbers = drawn.row(len(found))
            member = mixed(list(found), numbers, dimension)
            self.assertIn(member, found)
            self.assertEqual(found.coordinates(member), numbers)
            for polynomial in polynomials:
                self.assertIn(polynomial, found)
                self.assertEqual(mixed(list(found), found.coordinates(polynomial), dimension), polynomial)
            other = drawn.polynomial(dimension, 3)
            self.assertIs(other in found, span_size(polynomials + [other]) == len(found))

    def test_other_dimensions(self):
        for found in [Space(2), space("1", "x")]:
            for other in [poly("0", 1), poly("1", 3), poly("0", 3)]:
                self.assertIs(other in found, False)
                for method in [found.coordinates, found.projection]:
                    with self.assertRaises(WrongDimension):
                        method(other)

    def test_coordinates_are_new_lists(self):
        found = space("1", "x")
        found.coordinates(poly("1 + x")).clear()
        self.assertEqual(found.coordinates(poly("1 + x")), [1, 1])


class Comparing(unittest.TestCase):

    def test_equality(self):
        self.assertTrue(space("1", "x") == space("1 + x", "1 - x"))
        self.assertFalse(space("1", "x") != space("1 + x", "1 - x"))
        for other in [space("1"), space("1", "y"), space("1", "x", dimension=3), Space(2)]:
            self.assertTrue(space("1", "x") != other)
            self.assertFalse(space("1", "x") == other)
        self.assertIs(Space(1) == Space(2), False)
        for other in [[poly("1"), poly("x")], None, 2]:
            self.assertIs(space("1", "x") == other, False)

    def test_iteration(self):
        found = space("1", "x")
        self.assertEqual([texts(found), texts(found), len(found)], [["1", "x"], ["1", "x"], 2])


class Sums(unittest.TestCase):

    def test_by_hand(self):
        self.assertEqual(space("1 + x") + space("1 - x", "y^2"), space("1", "x", "y^2"))
        self.assertEqual(space("x") + Space(2), space("x"))
        self.assertEqual(Space(2) + Space(2), Space(2))
        first, second = space("x"), space("y")
        self.assertEqual((texts(first + second), texts(first), texts(second)), (["x", "y"], ["x"], ["y"]))

    def test_all_sums(self):
        drawn = Drawn(29)
        for dimension, polynomials in drawn_spaces():
            others = [drawn.polynomial(dimension, 3) for _ in range(4)]
            found = Space(dimension, polynomials) + Space(dimension, others)
            self.assertEqual(found, Space(dimension, polynomials + others))
            self.assertEqual(found, Space(dimension, others) + Space(dimension, polynomials))

    def test_dimensions(self):
        for first, second in [(1, 2), (3, 2), (2, 3)]:
            with self.assertRaises(WrongDimension):
                Space(first) + Space(second)


class Products(unittest.TestCase):

    def test_by_hand(self):
        first, second = space("1 + x", dimension=1), space("1", "x^2", dimension=1)
        self.assertEqual(texts(first * second), ["1 + x", "y^2 + x y^2"])
        self.assertEqual(texts(second * first), ["1 + y", "x^2 + x^2 y"])
        self.assertEqual(texts(space("x y + y^2") * first), ["x y + y^2 + x y z + y^2 z"])
        self.assertEqual(texts(first * space("x y + y^2")), ["y z + z^2 + x y z + x z^2"])
        self.assertEqual((first * second).dimension, 2)

    def test_all_products(self):
        drawn = Drawn(31)
        for low, high in [(1, 1), (1, 2), (2, 1)]:
            first = [drawn.polynomial(low, 3) for _ in range(3)]
            second = [drawn.polynomial(high, 4) for _ in range(4)]
            found = Space(low, first) * Space(high, second)
            products = [embedded(p, low + high, 0) * embedded(q, low + high, low) for p in first for q in second]
            self.assertEqual(found, Space(low + high, products))
            self.assertEqual(len(found), len(Space(low, first)) * len(Space(high, second)))

    def test_large_products(self):
        first = Space(1, [Polynomial(1, [((k,), Ratio(1)), ((8,), Ratio(1))]) for k in range(9)])
        second = Space(2, [Polynomial.monomial(place) for place in monomials_up_to(2, 6)][:24])
        found = first * second
        self.assertEqual((len(found), found.degree), (9 * 24, 8 + 6))

    def test_errors(self):
        for first, second in [(2, 2), (3, 1), (1, 3), (3, 3)]:
            with self.assertRaises(WrongDimension):
                Space(first) * Space(second)
            with self.assertRaises(WrongDimension):
                Space(first, [poly("x^8", first)]) * Space(second, [poly("x^8", second)])
            with self.assertRaises(WrongDimension):
                Space(first, [poly("x^9", first)]) * Space(second, [poly("x^8", second)])
        high = space("1", "x^8", dimension=1)
        self.assertEqual((high * high).degree, 16)
        higher = space("x + x^9", dimension=1)
        for first, second in [(high, higher), (higher, high), (higher, higher), (high * high, space("x", dimension=1))]:
            with self.assertRaises(TooLarge):
                first * second
        for found in [higher * Space(1), Space(1) * higher, Space(1) * space("x^16", dimension=1)]:
            self.assertEqual(found, Space(2))
        self.assertEqual((high * high) * space("1", dimension=1), Space(3, [embedded(p, 3, 0) for p in high * high]))


class Projections(unittest.TestCase):

    def assert_projection(self, found, polynomial):
        image = found.projection(polynomial)
        self.assertIsInstance(image, Polynomial)
        self.assertIn(image, found)
        for member in found:
            self.assertEqual(pairing(polynomial - image, member), 0)

    def test_by_hand(self):
        self.assertEqual(str(space("1", "x").projection(poly("3 + 2 x - y + x y"))), "3 + 2 x")
        self.assertEqual(str(space("x + y").projection(poly("x"))), "1/2 x + 1/2 y")
        self.assertEqual(str(space("y + x^2").projection(poly("x^2"))), "2/3 y + 2/3 x^2")
        self.assertEqual(space("x").projection(poly("y")), poly("0"))

    def test_the_rest_is_orthogonal(self):
        drawn = Drawn(37)
        for dimension, polynomials in drawn_spaces():
            found = Space(dimension, polynomials)
            for degree in [0, 2, 8]:
                self.assert_projection(found, drawn.polynomial(dimension, degree, 9))
            for member in found:
                self.assertEqual(found.projection(member), member)

    def test_least_spaces(self):
        drawn = Drawn(41)
        for lot in many_lots():
            self.assert_projection(least_space(lot), drawn.polynomial(lot.dimension, 8, 20))

    def test_sixty_digits(self):
        numbers = [ratio(f"{10 ** 59 + 7 * k}/{10 ** 58 + 11 * k}") for k in range(1, 9)]
        parts = [poly("1"), poly("x"), poly("x y"), poly("y^8")]
        found = Space(2, [mixed(parts, numbers[k:k + 4], 2) for k in range(3)])
        self.assert_projection(found, mixed(parts, numbers[4:], 2))

    def test_nothing_is_changed(self):
        found, polynomial = space("1 + x", "y"), poly("y + x y")
        found.projection(polynomial), found.coordinates(polynomial), polynomial in found, found + found
        self.assertEqual((texts(found), str(polynomial)), (["1 + x", "y"], "y + x y"))
        self.assertEqual(texts(found.coordinates(poly("y"))), ["0", "1"])


if __name__ == "__main__":
    unittest.main()

import itertools
import unittest

from spotheights.errors import BadOrder, BadText, SpotError, WrongDimension
from spotheights.monomials import comes_before, monomials_up_to
from spotheights.orders import Order, read_order

RANKINGS = [ranking for many in [1, 2, 3] for ranking in itertools.permutations(range(many))]


def wanted_before(kind, ranking, first, second):
    """The rule of the document, word by word."""
    if kind == "degree" and sum(first) != sum(second):
        return sum(first) < sum(second)
    for index in ranking:
        if first[index] != second[index]:
            larger_first = kind == "degree"
            return (first[index] > second[index]) == larger_first
    return False


class Making(unittest.TestCase):

    def test_attributes(self):
        for kind in ["degree", "variables"]:
            for ranking in RANKINGS:
                for given in [ranking, list(ranking)]:
                    order = Order(kind, given)
                    self.assertEqual((order.kind, order.ranking, order.dimension), (kind, ranking, len(ranking)))
                    self.assertIsInstance(order.ranking, tuple)

    def test_the_ranking_is_copied(self):
        ranking = [1, 0]
        order = Order("degree", ranking)
        ranking[0] = 7
        self.assertEqual((order.ranking, str(order)), ((1, 0), "degree yx"))

    def test_other_kinds(self):
        for kind in ["", "degrees", "Degree", "variable", "lex", " degree", "degree ", "x" * 99999]:
            with self.subTest(kind[:10]), self.assertRaises(BadOrder):
                Order(kind, (0, 1))

    def test_other_rankings(self):
        for kind in ["degree", "variables", "other"]:
            for ranking in [(), [], (1,), (-1,), (0, 0), (0, 2), (1, 2), (-1, 0), (0, 1, 1), (0, 1, 3), (1, 2, 3),
                            (0, 1, 2, 3), [0, 1, 2, 3], (0, -1, 1), (0, 0, 0), (10 ** 20,), [0] * 1000]:
                with self.subTest(str(ranking)[:20]), self.assertRaises(BadOrder):
                    Order(kind, ranking)


class Arranging(unittest.TestCase):

    def test_precedes(self):
        for kind in ["degree", "variables"]:
            for ranking in RANKINGS:
                order = Order(kind, ranking)
                places = list(monomials_up_to(len(ranking), 3))
                for first in places:
                    for second in places:
                        wanted = wanted_before(kind, ranking, first, second)
                        self.assertIs(order.precedes(first, second), wanted)

    def test_the_standard_order(self):
        for ranking in [(0,), (0, 1), (0, 1, 2)]:
            order = Order("degree", ranking)
            places = list(monomials_up_to(len(ranking), 4))
            self.assertEqual(order.arranged(places[::-1]), places)
            for first in places:
                for second in places:
                    self.assertIs(order.precedes(first, second), comes_before(first, second))

    def test_arranged_by_hand(self):
        places = [(1, 1), (0, 2), (2, 0), (0, 0), (1, 0), (0, 1)]
        for kind, ranking, wanted in [
            ("degree", (0, 1), [(0, 0), (1, 0), (0, 1), (2, 0), (1, 1), (0, 2)]),
            ("degree", (1, 0), [(0, 0), (0, 1), (1, 0), (0, 2), (1, 1), (2, 0)]),
            ("variables", (0, 1), [(0, 0), (0, 1), (0, 2), (1, 0), (1, 1), (2, 0)]),
            ("variables", (1, 0), [(0, 0), (1, 0), (2, 0), (0, 1), (1, 1), (0, 2)]),
        ]:
            for given in [places, tuple(places)]:
                found = Order(kind, ranking).arranged(given)
                self.assertIsInstance(found, list)
                self.assertEqual(found, wanted)
        self.assertEqual(places, [(1, 1), (0, 2), (2, 0), (0, 0), (1, 0), (0, 1)])

    def test_arranged_in_every_order(self):
        for kind in ["degree", "variables"]:
            for ranking in RANKINGS:
                order = Order(kind, ranking)
                places = list(monomials_up_to(len(ranking), 3))
                found = order.arranged(places[::2] + places[1::2])
                self.assertEqual(sorted(found), sorted(places))
                for first, second in zip(found, found[1:]):
                    self.assertTrue(wanted_before(kind, ranking, first, second))

    def test_repetitions_and_nothing(self):
        order = Order("variables", (1, 0))
        self.assertEqual(order.arranged([(0, 1), (1, 0), (0, 1)]), [(1, 0), (0, 1), (0, 1)])
        self.assertEqual(order.arranged([]), [])
        places = [(1, 0)]
        order.arranged(places).clear()
        self.assertEqual(places, [(1, 0)])
        self.assertIs(order.precedes((1, 0), (1, 0)), False)

    def test_dimensions(self):
        order = Order("degree", (1, 0))
        for other in [(), (1,), (1, 0, 0)]:
            for first, second in [(other, (0, 0)), ((0, 0), other), (other, other)]:
                with self.assertRaises(WrongDimension):
                    order.precedes(first, second)
            for places in [[other], [(0, 0), other], [other, (0, 0)]]:
                with self.assertRaises(WrongDimension):
                    order.arranged(places)


class Texts(unittest.TestCase):

    def test_written_forms(self):
        self.assertEqual(str(Order("degree", (0, 1))), "degree xy")
        self.assertEqual(str(Order("variables", (2, 0, 1))), "variables zxy")
        self.assertEqual(str(Order("degree", (0,))), "degree x")

    def test_reading(self):
        for kind in ["degree", "variables"]:
            for ranking in RANKINGS:
                order = Order(kind, ranking)
                found = read_order(str(order))
                self.assertEqual((found, found.dimension), (order, len(ranking)))

    def test_other_texts(self):
        for text in ["", " ", "degree", "degree ", " degree x", "degree  x", "degree x ", "degree y", "degree xz",
                     "degree yz", "degree xx", "degree xyzx", "degree xyzz", "degree x y", "Degree x", "degree X",
                     "degrees x", "variable x", "variables", "variables ", "variables x\n", "variables\tx", "xy", "x",
                     "degree 0", "degree xy degree", "degree w", "degree xyzw", "degree\u00a0x", "variables \u0445",
                     "degree x\x00", "lex xy", "degree,xy", "degree xyx", "degree zz", "degree z", "variables zx"]:
            with self.subTest(text), self.assertRaises(BadText) as caught:
                read_order(text)
            self.assertIs(type(caught.exception), BadText)
            self.assertEqual(caught.exception.text, text)
            self.assertIsInstance(caught.exception, SpotError)

    def test_long_texts(self):
        for text in ["degree " + "x" * 100000, "x" * 100000, "degree " * 50000, " " * 100000, "variables xy" * 9999]:
            with self.assertRaises(BadText) as caught:
                read_order(text)
            self.assertIs(type(caught.exception), BadText)
            self.assertEqual(caught.exception.text, text)


class Comparing(unittest.TestCase):

    def test_equality(self):
        orders = [Order(kind, ranking) for kind in ["degree", "variables"] for ranking in RANKINGS]
        for at, first in enumerate(orders):
            for k, second in enumerate(orders):
                self.assertIs(first == second, at == k)
                self.assertIs(first != second, at != k)
            self.assertIs(first == Order(first.kind, list(first.ranking)), True)
            for other in [str(first), None, first.ranking, (first.kind, first.ranking), 0]:
                self.assertIs(first == other, False)


if __name__ == "__main__":
    unittest.main()

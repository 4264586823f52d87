import unittest

from spotheights.errors import WrongCount
from spotheights.fitting import fit
from spotheights.leastspace import least_space
from spotheights.lots import Lot
from spotheights.newton import added_degrees, newton_basis, newton_coefficients
from spotheights.ratios import Ratio
from tests.helpers import Drawn, lot, many_lots, mixed, ratios, texts


class NewtonBases(unittest.TestCase):

    def test_example(self):
        spots = [(Ratio(0), Ratio(0)), (Ratio(1), Ratio(1)), (Ratio(2), Ratio(0))]
        self.assertEqual(texts(newton_basis(Lot.heights(2, spots))), ["1", "1/2 x + 1/2 y", "1/2 x - 1/2 y"])

    def test_by_hand(self):
        for questions, basis, degrees, dimension in [
            ([], [], [], 2), (["at 3 4"], ["1"], [0], 2), (["at 3 4 ask 5"], ["1/5"], [0], 2),
            (["at 0", "at 1", "at 2"], ["1", "x", "-1/2 x + 1/2 x^2"], [0, 1, 2], 1),
            (["at 0 0", "at 3 0", "at 7 0"], ["1", "1/3 x", "-3/28 x + 1/28 x^2"], [0, 1, 2], 2),
            (["at 0 ask x", "at 2"], ["x", "1"], [1, 0], 1), (["at 2", "at 0 ask x"], ["1", "-2 + x"], [0, 1], 1),
            (["at 0 0 ask x y", "at 0 0", "at 1 0"], ["x y", "1", "x"], [2, 0, 1], 2),
        ]:
            with self.subTest(str(questions)):
                found = lot(*questions, dimension=dimension)
                self.assertEqual(texts(newton_basis(found)), basis)
                self.assertEqual(added_degrees(found), degrees)

    def test_every_lot(self):
        for found in many_lots():
            basis = newton_basis(found)
            self.assertIsInstance(basis, list)
            self.assertEqual(len(basis), len(found))
            for at, polynomial in enumerate(basis):
                self.assertEqual(found.ask(polynomial)[:at + 1], [0] * at + [1])
                part = found.part(list(range(at + 1)))
                self.assertIn(polynomial, least_space(part))
                self.assertEqual(polynomial, fit(part, [Ratio(int(k == at)) for k in range(at + 1)]))

    def test_degrees(self):
        for found in many_lots():
            counts = least_space(found).counts()
            indexes = list(range(len(found)))
            for order in [indexes, indexes[::-1], indexes[1::2] + indexes[::2]]:
                turned = found.part(order)
                degrees = added_degrees(turned)
                self.assertEqual(degrees, [polynomial.degree for polynomial in newton_basis(turned)])
                self.assertEqual([degrees.count(degree) for degree in range(len(counts))], counts)

    def test_the_degrees_in_which_the_space_grows(self):
        for found in many_lots():
            sums = [sum([member.degree for member in least_space(found.part(list(range(many))))])
                    for many in range(len(found) + 1)]
            self.assertEqual(added_degrees(found), [high - low for low, high in zip(sums, sums[1:])])


class Coefficients(unittest.TestCase):

    def test_by_hand(self):
        found = lot("at 0", "at 1", "at 2", dimension=1)
        self.assertEqual(newton_coefficients(found, ratios("1 4 9")), ratios("1 3 2"))
        self.assertEqual(newton_coefficients(found, tuple(ratios("0 0 1/2"))), ratios("0 0 1/2"))
        self.assertEqual(newton_coefficients(Lot.empty(3), []), [])

    def test_first_polynomials_and_first_answers(self):
        drawn = Drawn(269)
        for found in many_lots():
            answers = drawn.row(len(found))
            basis = newton_basis(found)
            numbers = newton_coefficients(found, answers)
            self.assertIsInstance(numbers, list)
            self.assertEqual(len(numbers), len(found))
            for many in range(len(found) + 1):
                wanted = fit(found.part(list(range(many))), answers[:many])
                self.assertEqual(mixed(basis[:many], numbers[:many], found.dimension), wanted)

    def test_counts(self):
        found = lot("at 0", "at 1", dimension=1)
        for answers in ["", "1", "1 2 3"]:
            with self.assertRaises(WrongCount):
                newton_coefficients(found, ratios(answers))
        with self.assertRaises(WrongCount):
            newton_coefficients(Lot.empty(1), ratios("0"))

    def test_lists_are_new(self):
        found = lot("at 0", "at 1", dimension=1)
        answers = ratios("1 4")
        newton_basis(found).clear()
        added_degrees(found).clear()
        newton_coefficients(found, answers).clear()
        self.assertEqual(answers, ratios("1 4"))
        self.assertEqual(texts(newton_basis(found)), ["1", "x"])
        self.assertEqual(added_degrees(found), [0, 1])
        self.assertEqual(newton_coefficients(found, answers), ratios("1 3"))


if __name__ == "__main__":
    unittest.main()

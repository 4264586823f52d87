import unittest

from spotheights.calculus import pairing
from spotheights.certificates import Member, NonMember
from spotheights.errors import WrongDimension
from spotheights.leastspace import least_space
from spotheights.lots import Lot
from spotheights.membership import belonging
from spotheights.ratios import Ratio
from tests.helpers import Drawn, lot, many_lots, mixed, poly, ratio, texts


class Belonging(unittest.TestCase):

    def test_example(self):
        spots = [(Ratio(0), Ratio(0)), (Ratio(1), Ratio(1))]
        self.assertIs(belonging(Lot.heights(2, spots), poly("x - y")).VERDICT, False)

    def test_by_hand(self):
        found = lot("at 0 0", "at 1 1", "at 2 2")
        for text, wanted in [("0", True), ("1", True), ("x + y", True), ("1 - x - y", True), ("x", False),
                             ("x^2 + 2 x y + y^2", True), ("3 - x - y + x^2 + 2 x y + y^2", True), ("x y", False),
                             ("x + y + x^3", False), ("1 + x + y^2", False), ("x^8", False)]:
            certificate = belonging(found, poly(text))
            self.assertIs(certificate.VERDICT, wanted)
            self.assertIs(certificate.holds(), True)

    def test_members(self):
        drawn = Drawn(109)
        for found in many_lots():
            members = list(least_space(found))
            for polynomial in members + [mixed(members, drawn.row(len(members)), found.dimension)]:
                certificate = belonging(found, polynomial)
                self.assertIs(type(certificate), Member)
                self.assertEqual((certificate.lot, certificate.polynomial), (found, polynomial))
                self.assertEqual(len(certificate.rows), polynomial.degree + 1)
                self.assertIs(certificate.holds(), True)

    def test_other_polynomials(self):
        drawn = Drawn(113)
        kinds = []
        for found in many_lots():
            space = least_space(found)
            for degree in [0, 1, 2, 3, 8]:
                polynomial = drawn.polynomial(found.dimension, degree, 4)
                certificate = belonging(found, polynomial)
                kinds.append(certificate.VERDICT)
                self.assertIs(certificate.VERDICT, polynomial in space)
                self.assertIs(certificate.holds(), True)
                if not certificate.VERDICT:
                    self.assertIs(type(certificate), NonMember)
                    self.assertEqual((certificate.lot, certificate.polynomial), (found, polynomial))
                    self.assertEqual(found.ask(certificate.obstruction), [0] * len(found))
                    self.assertNotEqual(pairing(certificate.obstruction.top_part(), polynomial), 0)
        self.assertTrue(kinds.count(True) > 20 and kinds.count(False) > 100)

    def test_exactly_one_of_rows_and_an_obstruction(self):
        # No top part of a polynomial with all answers zero has a pairing with a member.
        for found in many_lots():
            obstructions = [belonging(found, poly(text, found.dimension)) for text in ["x", "x^2", "x + x^3", "x^8"]]
            for certificate in obstructions:
                if not certificate.VERDICT:
                    for member in least_space(found):
                        self.assertEqual(pairing(certificate.obstruction.top_part(), member), 0)
                        self.assertIs(NonMember(found, member, certificate.obstruction).holds(), False)

    def test_the_zero_polynomial_and_the_empty_lot(self):
        for dimension in [1, 2, 3]:
            found = Lot.empty(dimension)
            certificate = belonging(found, poly("0", dimension))
            self.assertEqual((type(certificate), certificate.rows, certificate.holds()), (Member, [], True))
            for text in ["1", "1 + x", "x^8"]:
                certificate = belonging(found, poly(text, dimension))
                self.assertEqual((type(certificate), certificate.holds()), (NonMember, True))
            certificate = belonging(lot("at " + " ".join(["3"] * dimension), dimension=dimension), poly("0", dimension))
            self.assertEqual(certificate.rows, [])

    def test_dimensions(self):
        for found in [Lot.empty(2), lot("at 0 0")]:
            for dimension in [1, 3]:
                for text in ["0", "1"]:
                    with self.assertRaises(WrongDimension):
                        belonging(found, poly(text, dimension))

    def test_nothing_is_changed(self):
        found, polynomial = lot("at 0 0", "at 1 1"), poly("x + y")
        certificate = belonging(found, polynomial)
        certificate.rows[1].clear()
        self.assertEqual((texts(found), str(polynomial)), (["at 0 0", "at 1 1"], "x + y"))
        self.assertIs(belonging(found, polynomial).holds(), True)

    def test_long_numbers(self):
        spots = [[ratio(f"{101 * k}/{991 - k}"), ratio(f"{7 * k * k - 20}/{997 - k}")] for k in range(8)]
        found = Lot.heights(2, spots)
        number = ratio(f"{10 ** 59 + 7}/{10 ** 58 + 11}")
        for member in least_space(found):
            self.assertIs(belonging(found, member * number).holds(), True)
            certificate = belonging(found, member * number + poly("y^5"))
            self.assertEqual((certificate.VERDICT, certificate.holds()), (False, True))


if __name__ == "__main__":
    unittest.main()

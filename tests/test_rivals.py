import unittest

from spotheights.errors import NoFit, WrongCount, WrongDimension
from spotheights.fitting import Fitter, project
from spotheights.leastspace import least_space
from spotheights.lots import Lot
from spotheights.lowersets import monomial_space
from spotheights.monomials import monomials_up_to
from spotheights.polynomials import Polynomial
from spotheights.ratios import Ratio
from spotheights.rivals import fit_in, judge_degrees, judge_fit
from spotheights.spaces import Space
from spotheights.verdicts import Fits, Gap, Keeps, Raises
from tests.helpers import Checks, Drawn, fraction, independent, lot, many_lots, poly, ratios, space, texts, weighted

PAIR = lot("at 0 0", "at 1 1")


def rank_of_answers(found, told):
    return independent([[fraction(number) for number in found.ask(member)] for member in told])


def drawn_spaces(found, drawn):
    """Spaces with fewer, as many and more members than the lot has questions, some of which fit."""
    many = len(found)
    spaces = [Space(found.dimension), least_space(found)]
    for size in [1, many - 1, many, many, many + 1, many + 2]:
        spaces.append(Space(found.dimension, [drawn.polynomial(found.dimension, 4, 3, 4) for _ in range(size)]))
    members = list(least_space(found))
    vanishing = poly("x^3", found.dimension) - project(found, poly("x^3", found.dimension))
    spaces.append(Space(found.dimension, [*members[1:], vanishing]))
    spaces.append(Space(found.dimension, [member + vanishing for member in members]))
    spaces.append(Space(found.dimension, [*members, vanishing]))
    return spaces


class FittingSpaces(Checks):

    def test_by_hand(self):
        found = judge_fit(PAIR, space("1", "x y"))
        self.assertIsInstance(found, Fits)
        self.assertEqual(texts(found.cardinals), ["1 - x y", "x y"])
        self.assertEqual((found.lot, found.space), (PAIR, space("1", "x y")))
        for members, member, weights in [
            (["1", "x - y"], True, True), (["1", "x", "y"], True, False), (["1"], False, True), ([], False, True),
            (["x - y"], True, True), (["x", "x^2", "y"], True, True), (["x - y", "x^2 - y^2", "x"], True, True),
        ]:
            with self.subTest(str(members)):
                found = judge_fit(PAIR, space(*members))
                self.assertIsInstance(found, Gap)
                self.assert_holds(found)
                self.assertEqual((found.member is not None, found.weights is not None), (member, weights))

    def test_the_empty_lot_and_the_zero_space(self):
        for dimension in [1, 2, 3]:
            found = judge_fit(Lot.empty(dimension), Space(dimension))
            self.assertIsInstance(found, Fits)
            self.assertEqual(found.cardinals, [])
            self.assert_holds(found)
            found = judge_fit(Lot.empty(dimension), space("x", "1", dimension=dimension))
            self.assertTrue(found.member)
            self.assertIsNone(found.weights)
            self.assert_holds(found)
            height = Lot.heights(dimension, [[Ratio(3)] * dimension])
            found = judge_fit(height, Space(dimension))
            self.assertIsNone(found.member)
            self.assertTrue(any(found.weights))
            self.assert_holds(found)

    def test_every_lot(self):
        drawn = Drawn(229)
        seen = {}
        for found in many_lots():
            for told in drawn_spaces(found, drawn):
                certificate = judge_fit(found, told)
                self.assert_holds(certificate)
                rank = rank_of_answers(found, told)
                fits = rank == len(found) == len(told)
                self.assertIsInstance(certificate, Fits if fits else Gap)
                if not fits:
                    self.assertEqual(certificate.member is not None, rank < len(told))
                    self.assertEqual(certificate.weights is not None, rank < len(found))
                seen[fits, rank < len(told), rank < len(found)] = True
        self.assertEqual(len(seen), 4)

    def test_cardinals(self):
        drawn = Drawn(231)
        for found in many_lots():
            for told in drawn_spaces(found, drawn):
                certificate = judge_fit(found, told)
                if certificate.VERDICT:
                    for k, polynomial in enumerate(certificate.cardinals):
                        self.assertIn(polynomial, told)
                        self.assertEqual(found.ask(polynomial), [int(i == k) for i in range(len(found))])

    def test_least_spaces_fit(self):
        for found in many_lots():
            certificate = judge_fit(found, least_space(found))
            self.assertEqual(certificate.cardinals, Fitter(found).cardinals())

    def test_spaces_with_many_members(self):
        wide = monomial_space(2, list(monomials_up_to(2, 5)))
        self.assertEqual(len(wide), 21)
        self.assert_holds(judge_fit(PAIR, wide))
        high = space("1", "x^8", dimension=1) * space("1", "x^8", dimension=1)
        self.assert_holds(judge_fit(lot("at 0 0", "at 2 0", "at 0 2", "at 2 2"), high))
        self.assertIsInstance(judge_fit(lot("at 0 0", "at 2 0", "at 0 2", "at 2 2"), high), Fits)


class FitsInSpaces(Checks):

    def test_by_hand(self):
        self.assertEqual(str(fit_in(PAIR, space("1", "x y"), ratios("3 5"))), "3 + 2 x y")
        self.assertEqual(str(fit_in(PAIR, space("1", "x y"), ratios("0 0"))), "0")
        self.assertEqual(str(fit_in(Lot.empty(2), Space(2), [])), "0")
        found = lot("at 0 ask x", "at 2", dimension=1)
        self.assertEqual(str(fit_in(found, space("x", "x^3", dimension=1), ratios("1 1"))), "x - 1/8 x^3")

    def test_every_lot(self):
        drawn = Drawn(233)
        seen = 0
        for found in many_lots():
            for told in drawn_spaces(found, drawn):
                if judge_fit(found, told).VERDICT:
                    answers = drawn.row(len(found))
                    polynomial = fit_in(found, told, tuple(answers))
                    self.assertIn(polynomial, told)
                    self.assertEqual(found.ask(polynomial), answers)
                    seen += 1
        self.assertGreater(seen, 70)

    def test_the_least_space(self):
        drawn = Drawn(235)
        for found in many_lots():
            answers = drawn.row(len(found))
            self.assertEqual(fit_in(found, least_space(found), answers), Fitter(found)(answers))

    def test_spaces_that_do_not_fit(self):
        drawn = Drawn(237)
        for found in many_lots():
            for told in drawn_spaces(found, drawn):
                gap = judge_fit(found, told)
                if not gap.VERDICT:
                    for answers in [drawn.row(len(found)), drawn.row(len(found) + 1)]:
                        with self.assertRaises(NoFit) as caught:
                            fit_in(found, told, answers)
                        self.assert_same_gap(caught.exception.certificate, gap)
                    with self.assertRaises(NoFit) as caught:
                        judge_degrees(found, told)
                    self.assert_same_gap(caught.exception.certificate, gap)

    def assert_same_gap(self, first, second):
        self.assertIsInstance(first, Gap)
        self.assert_holds(first)
        self.assertEqual((first.lot, first.space), (second.lot, second.space))
        self.assertEqual((first.member, first.weights), (second.member, second.weights))

    def test_numbers_of_answers(self):
        for answers in ["", "1", "1 2 3"]:
            with self.assertRaises(WrongCount):
                fit_in(PAIR, space("1", "x y"), ratios(answers))
        with self.assertRaises(WrongCount):
            fit_in(Lot.empty(2), Space(2), ratios("0"))


class RaisedDegrees(Checks):

    def test_example(self):
        found = Lot.heights(2, [(Ratio(0), Ratio(0)), (Ratio(1), Ratio(1))])
        certificate = judge_degrees(found, Space(2, [poly("1"), poly("x y")]))
        self.assertIsInstance(certificate, Raises)
        self.assertEqual(certificate.exponents, (1, 0))
        self.assertIsInstance(certificate.exponents, tuple)
        self.assertEqual(str(certificate.fitted), "x y")
        self.assert_holds(certificate)

    def test_by_hand(self):
        found = judge_degrees(PAIR, space("1 + x - y", "x y"))
        self.assertEqual((found.exponents, str(found.fitted)), ((0, 0), "1 + x - y"))
        found = judge_degrees(PAIR, space("1", "x"))
        self.assertIsInstance(found, Keeps)
        self.assertEqual(texts(found.fitted), ["1"])
        found = judge_degrees(lot("at 0 0", "at 1 1", "at 2 2"), space("1", "x", "x^2"))
        self.assertEqual(texts(found.fitted), ["1", "x", "x"])
        found = judge_degrees(lot("at 0 0", "at 1 0", "at 0 1"), space("1", "x", "y^2"))
        self.assertEqual((found.exponents, str(found.fitted)), ((0, 1), "y^2"))
        found = judge_degrees(lot("at 3 4"), space("1"))
        self.assertEqual(found.fitted, [])
        self.assert_holds(found)

    def test_the_empty_lot(self):
        for dimension in [1, 2, 3]:
            found = judge_degrees(Lot.empty(dimension), Space(dimension))
            self.assertIsInstance(found, Keeps)
            self.assertEqual(found.fitted, [])
            self.assert_holds(found)

    def test_every_lot(self):
        drawn = Drawn(239)
        seen = {Keeps: 0, Raises: 0}
        for found in many_lots():
            for told in drawn_spaces(found, drawn):
                if judge_fit(found, told).VERDICT:
                    certificate = judge_degrees(found, told)
                    self.assert_holds(certificate)
                    raised = [place for place in monomials_up_to(found.dimension, max(told.degree, 0))
                              if fit_in(found, told, [row[0] for row in found.table([place])]).degree > sum(place)]
                    if raised:
                        self.assertEqual(certificate.exponents, raised[0])
                    else:
                        self.assertIsInstance(certificate, Keeps)
                        self.assertEqual(len(certificate.fitted), len(list(monomials_up_to(found.dimension, told.degree - 1))))
                    # A space that fits raises no monomial exactly if its counts are those of the least space.
                    self.assertIs(certificate.VERDICT, told.counts() == least_space(found).counts())
                    seen[certificate.__class__] += 1
        self.assertGreater(min(seen.values()), 20)

    def test_polynomials_are_raised_exactly_if_monomials_are(self):
        drawn = Drawn(241)
        for found in many_lots():
            for told in drawn_spaces(found, drawn)[1:]:
                if judge_fit(found, told).VERDICT and judge_degrees(found, told).VERDICT:
                    for degree in range(5):
                        polynomial = drawn.polynomial(found.dimension, degree, 4)
                        self.assertLessEqual(fit_in(found, told, found.ask(polynomial)).degree, polynomial.degree)

    def test_least_spaces_raise_nothing(self):
        for found in many_lots():
            certificate = judge_degrees(found, least_space(found))
            self.assertIsInstance(certificate, Keeps)
            self.assert_holds(certificate)
            places = monomials_up_to(found.dimension, least_space(found).degree - 1)
            self.assertEqual(certificate.fitted, [project(found, Polynomial.monomial(place)) for place in places])

    def test_spaces_of_degree_16(self):
        high = space("1", "x^8", dimension=1) * space("1", "x^8", dimension=1)
        found = judge_degrees(lot("at 0 0", "at 2 0", "at 0 2", "at 2 2"), high)
        self.assertEqual(found.exponents, (1, 0))
        self.assert_holds(found)


class Errors(unittest.TestCase):

    def test_dimensions(self):
        for found in many_lots()[::5]:
            for dimension in [1, 2, 3]:
                if dimension != found.dimension:
                    for told in [Space(dimension), space("1", "x", dimension=dimension)]:
                        with self.assertRaises(WrongDimension):
                            judge_fit(found, told)
                        with self.assertRaises(WrongDimension):
                            fit_in(found, told, ratios("1 2 3 4 5 6 7 8 9"))
                        with self.assertRaises(WrongDimension):
                            judge_degrees(found, told)

    def test_lists_are_new(self):
        told = space("1", "x y")
        judge_fit(PAIR, told).cardinals.clear()
        judge_fit(PAIR, told).polynomials().clear()
        self.assertEqual(texts(judge_fit(PAIR, told).cardinals), ["1 - x y", "x y"])
        with self.assertRaises(NoFit) as caught:
            fit_in(PAIR, space("1"), ratios("1 2"))
        caught.exception.certificate.weights.clear()
        self.assertEqual(len(judge_fit(PAIR, space("1")).weights), 2)
        answers = ratios("3 5")
        fit_in(PAIR, told, answers)
        self.assertEqual((answers, texts(told), texts(PAIR)), (ratios("3 5"), ["1", "x y"], ["at 0 0", "at 1 1"]))

    def test_gaps_refute(self):
        drawn = Drawn(243)
        for found in many_lots()[::2]:
            for told in drawn_spaces(found, drawn):
                gap = judge_fit(found, told)
                if not gap.VERDICT and gap.weights is not None:
                    for member in told:
                        self.assertEqual(weighted(found.ask(member), gap.weights), 0)
                if not gap.VERDICT and gap.member is not None:
                    self.assertTrue(gap.member)
                    self.assertIn(gap.member, told)
                    self.assertFalse(any(found.ask(gap.member)))


if __name__ == "__main__":
    unittest.main()

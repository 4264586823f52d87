import unittest

from spotheights.certificates import LeastDegree
from spotheights.errors import BadIndex, WrongCount, WrongDimension
from spotheights.fitting import Fitter, fit, fit_certificate, project
from spotheights.leastspace import least_space
from spotheights.lots import Lot
from spotheights.monomials import monomials_up_to
from spotheights.ratios import Ratio
from tests.helpers import (Drawn, fraction, independent, lot, many_lots, mixed, poly, ratio, ratios, table, texts,
                           weighted)


def reachable(found, answers, degree):
    """Whether some polynomial of at most this degree has these answers, by Python's own fractions."""
    rows = found.table(list(monomials_up_to(found.dimension, degree)))
    plain = [[fraction(number) for number in row] for row in rows]
    return independent(plain) == independent([row + [fraction(answer)] for row, answer in zip(plain, answers)])


class Fits(unittest.TestCase):

    def test_example(self):
        found = Lot.heights(2, [(Ratio(0), Ratio(0)), (Ratio(1), Ratio(1))])
        self.assertEqual(str(fit(found, [Ratio(3), Ratio(4)])), "3 + 1/2 x + 1/2 y")

    def test_by_hand(self):
        for questions, answers, wanted in [
            (["at 0 0", "at 1 1", "at 2 2"], "0 0 1", "-1/4 x - 1/4 y + 1/8 x^2 + 1/4 x y + 1/8 y^2"),
            (["at 5 5"], "-2", "-2"), (["at 0 0 ask x y"], "3", "3 x y"), (["at 1 2", "at 1 2 ask y"], "0 2", "-4 + 2 y"),
            (["at 0 0", "at 1 0", "at 0 1"], "1 0 3", "1 - x + 2 y"), ([], "", "0"), (["at 1 1", "at 2 2"], "0 0", "0"),
        ]:
            self.assertEqual(str(fit(lot(*questions), ratios(answers))), wanted)

    def test_answers_and_space(self):
        drawn = Drawn(71)
        for found in many_lots():
            space = least_space(found)
            for answers in [drawn.row(len(found)), [Ratio(0)] * len(found)]:
                polynomial = fit(found, answers)
                self.assertEqual(found.ask(polynomial), answers)
                self.assertIn(polynomial, space)
                self.assertEqual(fit(found, tuple(answers)), polynomial)

    def test_no_polynomial_of_a_lower_degree(self):
        drawn = Drawn(73)
        for found in many_lots():
            for size in [0, 1, 9]:
                answers = [Ratio(drawn.integer(-size, size)) for _ in found]
                degree = fit(found, answers).degree
                self.assertTrue(reachable(found, answers, degree))
                if degree >= 0:
                    self.assertFalse(reachable(found, answers, degree - 1))

    def test_the_empty_lot(self):
        for dimension in [1, 2, 3]:
            found = Lot.empty(dimension)
            self.assertEqual(fit(found, []), poly("0", dimension))
            self.assertEqual(project(found, poly("x", dimension)), poly("0", dimension))
            fitter = Fitter(found)
            self.assertEqual((fitter([]), fitter.cardinals(), len(fitter.space)), (poly("0", dimension), [], 0))

    def test_wrong_counts(self):
        for found in [Lot.empty(2), lot("at 0 0", "at 1 1")]:
            fitter = Fitter(found)
            for many in {0, 1, 2, 3, 9} - {len(found)}:
                for function in [lambda answers: fit(found, answers), fitter,
                                 lambda answers: fit_certificate(found, answers)]:
                    with self.assertRaises(WrongCount):
                        function([Ratio(0)] * many)

    def test_nothing_is_changed(self):
        found, answers = lot("at 0 0", "at 1 1"), ratios("3 4")
        fit(found, answers), fit_certificate(found, answers), Fitter(found)(answers)
        self.assertEqual((texts(answers), texts(found)), (["3", "4"], ["at 0 0", "at 1 1"]))

    def test_sixty_digits(self):
        found = lot("at 999 -999", "at 1/999 998/999", "at -7 1/2 ask x", "at 0 0 ask 1 + x y")
        answers = [ratio(f"{10 ** 59 + 7 * k}/{10 ** 58 + 11 * k}") for k in range(1, 5)]
        polynomial = fit(found, answers)
        self.assertEqual(found.ask(polynomial), answers)
        self.assertTrue(fit_certificate(found, answers).holds())


class Fitters(unittest.TestCase):

    def test_attributes(self):
        found = lot("at 0 0", "at 1 1")
        fitter = Fitter(found)
        self.assertEqual((fitter.lot, fitter.space), (found, least_space(found)))
        self.assertEqual(str(fitter(ratios("3 4"))), "3 + 1/2 x + 1/2 y")

    def test_cardinals(self):
        for found in many_lots():
            fitter = Fitter(found)
            cardinals = fitter.cardinals()
            self.assertEqual(len(cardinals), len(found))
            for k, polynomial in enumerate(cardinals):
                self.assertEqual(found.ask(polynomial), [int(i == k) for i in range(len(found))])
                self.assertIn(polynomial, fitter.space)
                self.assertEqual(fitter.cardinal(k), polynomial)

    def test_the_fit_is_a_sum_of_cardinals(self):
        drawn = Drawn(79)
        for found in many_lots():
            fitter, answers = Fitter(found), drawn.row(len(found))
            self.assertEqual(fitter(answers), mixed(fitter.cardinals(), answers, found.dimension))
            self.assertEqual(fitter(answers), fit(found, answers))

    def test_indexes(self):
        fitter = Fitter(lot("at 0 0", "at 1 1"))
        self.assertEqual([str(fitter.cardinal(k)) for k in [0, 1]], ["1 - 1/2 x - 1/2 y", "1/2 x + 1/2 y"])
        for index in [-1, 2, -2, 10 ** 20]:
            with self.assertRaises(BadIndex):
                fitter.cardinal(index)
        with self.assertRaises(BadIndex):
            Fitter(Lot.empty(2)).cardinal(0)

    def test_lists_are_new(self):
        fitter = Fitter(lot("at 0 0", "at 1 1"))
        fitter.cardinals().clear()
        self.assertEqual(texts(fitter.cardinals()), ["1 - 1/2 x - 1/2 y", "1/2 x + 1/2 y"])
        self.assertEqual(str(fitter(ratios("3 4"))), "3 + 1/2 x + 1/2 y")


class Projections(unittest.TestCase):

    def test_by_hand(self):
        self.assertEqual(str(project(lot("at 0 0", "at 1 1"), poly("x^2"))), "1/2 x + 1/2 y")
        self.assertEqual(str(project(lot("at 1 0 ask x"), poly("y + x^3"))), "3 x")

    def test_same_answers_and_no_higher_degree(self):
        drawn = Drawn(83)
        for found in many_lots():
            for degree in [0, 1, 2, 4, 8]:
                polynomial = drawn.polynomial(found.dimension, degree)
                image = project(found, polynomial)
                self.assertEqual(found.ask(image), found.ask(polynomial))
                self.assertEqual(image, fit(found, found.ask(polynomial)))
                self.assertLessEqual(image.degree, polynomial.degree)
                top = least_space(found).projection(polynomial.top_part())
                if polynomial:
                    self.assertEqual(image.part(polynomial.degree), top)
            for member in least_space(found):
                self.assertEqual(project(found, member), member)

    def test_dimensions(self):
        for found in [Lot.empty(2), lot("at 0 0")]:
            for dimension in [1, 3]:
                for text in ["0", "x"]:
                    with self.assertRaises(WrongDimension):
                        project(found, poly(text, dimension))


class Certificates(unittest.TestCase):

    def test_they_hold(self):
        drawn = Drawn(89)
        for found in many_lots():
            for size in [1, 9]:
                answers = [Ratio(drawn.integer(-size, size)) for _ in found]
                certificate = fit_certificate(found, answers)
                self.assertIs(type(certificate), LeastDegree)
                self.assertEqual((certificate.lot, certificate.answers), (found, answers))
                self.assertEqual(certificate.polynomial, fit(found, answers))
                self.assertEqual(len(certificate.weights), len(found))
                self.assertIs(certificate.holds(), True)
                if any(answers):
                    self.assertNotEqual(weighted(answers, certificate.weights), 0)

    def test_each_fit_of_low_degree(self):
        for found in many_lots():
            for member in least_space(found):
                certificate = fit_certificate(found, found.ask(member))
                self.assertEqual(certificate.polynomial, member)
                self.assertIs(certificate.holds(), True)

    def test_answers_that_are_all_zero(self):
        for found in many_lots():
            certificate = fit_certificate(found, [Ratio(0)] * len(found))
            self.assertEqual(certificate.polynomial, poly("0", found.dimension))
            self.assertEqual(certificate.weights, [0] * len(found))
            self.assertIs(certificate.holds(), True)

    def test_copies(self):
        answers = ratios("3 4")
        certificate = fit_certificate(lot("at 0 0", "at 1 1"), answers)
        answers.clear()
        self.assertEqual(certificate.weight_lists(), table("3 4", "-1 1"))


class LongCoordinates(unittest.TestCase):

    def test_wide_lots(self):
        drawn = Drawn(97)
        for dimension in [1, 2, 3]:
            spots = [[Ratio(drawn.integer(-999, 999), drawn.integer(900, 999)) for _ in range(dimension)]
                     for _ in range(8)]
            found = Lot.heights(dimension, spots)
            answers = drawn.row(8, 10 ** 18)
            polynomial = fit(found, answers)
            self.assertEqual(found.ask(polynomial), answers)
            self.assertIs(fit_certificate(found, answers).holds(), True)
            self.assertEqual(project(found, polynomial), polynomial)


if __name__ == "__main__":
    unittest.main()

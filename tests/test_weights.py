import unittest

from spotheights.certificates import ExactAlways, ExactUpTo
from spotheights.errors import Dependent, TooWide, WrongDimension
from spotheights.fitting import Fitter
from spotheights.leastspace import least_space
from spotheights.lots import Lot
from spotheights.monomials import monomials_up_to
from spotheights.polynomials import Polynomial
from spotheights.questions import Question
from spotheights.ratios import Ratio
from spotheights.spaces import Space
from spotheights.weights import error_part, exact_degree, exactness, weights_for
from tests.helpers import Drawn, ask, fraction, independent, lot, many_lots, mixed, poly, texts, weighted

FUNCTIONS = [weights_for, exact_degree, error_part, exactness]


def further_questions(found):
    """Questions that go with the lot: at new spots, at those of the lot, and such as depend on it."""
    drawn = Drawn(103)
    questions = []
    for _ in range(4):
        operator = drawn.polynomial(found.dimension, drawn.integer(0, 2), 2, 3)
        questions.append(Question(drawn.spot(found.dimension), operator + poly("5", found.dimension)))
    for question in list(found)[:3]:
        questions.append(Question(question.spot, question.operator * Ratio(-2, 3)))
        operator = drawn.polynomial(found.dimension, 1, 2, 3)
        if operator:
            questions.append(Question(question.spot, operator))
    return [question for question in questions if not is_too_wide(found, question)]


def is_too_wide(found, question):
    try:
        found.with_question(question)
    except TooWide:
        return True
    except Dependent:
        return False
    return False


class Weights(unittest.TestCase):

    def test_by_hand(self):
        corner = lot("at 0 0", "at 1 0", "at 0 1")
        for found, question, weights, degree, part in [
            (corner, "at 1/2 1/2", "0 1/2 1/2", 1, "-1/8 x^2 + 1/4 x y - 1/8 y^2"),
            (corner, "at 2 3", "-4 2 3", 1, "x^2 + 6 x y + 3 y^2"), (corner, "at 1 0 ask x", "-1 1 0", 1, "1/2 x^2"),
            (corner, "at 1 0", "0 1 0", None, "0"), (corner, "at 0 1 ask -3", "0 0 -3", None, "0"),
            (corner, "at 5 7 ask x y", "0 0 0", 1, "x y"), (Lot.empty(2), "at 5 7", "", -1, "1"),
            (Lot.empty(2), "at 5 7 ask x^4", "", 3, "x^4"), (lot("at 0 0"), "at 1 0", "1", 0, "x"),
            (lot("at 0 0 ask x"), "at 1 0", "1", -1, "1"),
        ]:
            with self.subTest(question):
                self.assertEqual(texts(weights_for(found, ask(question))), weights.split())
                self.assertEqual(exact_degree(found, ask(question)), degree)
                self.assertEqual(str(error_part(found, ask(question))), part)

    def test_weights_are_answers_of_cardinals(self):
        for found in many_lots():
            cardinals = Fitter(found).cardinals()
            for question in further_questions(found):
                weights = weights_for(found, question)
                self.assertIsInstance(weights, list)
                self.assertEqual(weights, [question.ask(polynomial) for polynomial in cardinals])
                for member in least_space(found):
                    self.assertEqual(weighted(found.ask(member), weights), question.ask(member))

    def test_lists_are_new(self):
        found = lot("at 0 0", "at 1 0")
        for text in ["at 1/2 0", "at 1 0"]:
            weights = weights_for(found, ask(text))
            weights_for(found, ask(text)).clear()
            self.assertEqual(weights_for(found, ask(text)), weights)
        self.assertEqual(texts(found), ["at 0 0", "at 1 0"])


class Degrees(unittest.TestCase):

    def test_exact_up_to_the_degree_and_no_further(self):
        seen = []
        for found in many_lots():
            for question in further_questions(found):
                weights, degree = weights_for(found, question), exact_degree(found, question)
                seen.append(degree)
                for place in monomials_up_to(found.dimension, 9 if degree is None else degree):
                    monomial = Polynomial.monomial(place)
                    self.assertEqual(weighted(found.ask(monomial), weights), question.ask(monomial))
                if degree is not None:
                    # No weights at all are exact up to one degree more.
                    places = list(monomials_up_to(found.dimension, degree + 1))
                    rows = [[fraction(number) for number in row] for row in found.table(places)]
                    more = [fraction(question.ask(Polynomial.monomial(place))) for place in places]
                    self.assertEqual(independent(rows + [more]), independent(rows) + 1)
        for degree in [None, -1, 0, 1, 2, 3]:
            self.assertIn(degree, seen)

    def test_none_exactly_for_dependent_questions(self):
        for found in many_lots():
            for question in further_questions(found):
                try:
                    found.with_question(question)
                    self.assertIsNotNone(exact_degree(found, question))
                except Dependent:
                    self.assertIsNone(exact_degree(found, question))
                    self.assertEqual(error_part(found, question), poly("0", found.dimension))


class ErrorParts(unittest.TestCase):

    def test_the_lowest_part_of_the_error(self):
        for found in many_lots():
            for question in further_questions(found):
                degree, part = exact_degree(found, question), error_part(found, question)
                if degree is not None:
                    weights = [-number for number in weights_for(found, question)] + [Ratio(1)]
                    series = [one.series(degree + 1) for one in [*found, question]]
                    self.assertEqual(mixed(series, weights, found.dimension), part)
                    self.assertTrue(part.is_homogeneous())
                    self.assertEqual(part.degree, degree + 1)

    def test_the_least_space_grows_by_it(self):
        for found in many_lots():
            for question in further_questions(found):
                part = error_part(found, question)
                if part:
                    grown = least_space(found) + Space(found.dimension, [part])
                    self.assertEqual(least_space(found.with_question(question)), grown)
                    self.assertNotIn(part, least_space(found))


class Exactness(unittest.TestCase):

    def test_certificates_hold(self):
        kinds = []
        for found in many_lots():
            for question in further_questions(found):
                certificate = exactness(found, question)
                kinds.append(type(certificate))
                self.assertIs(certificate.holds(), True)
                self.assertEqual((certificate.lot, certificate.question), (found, question))
                self.assertEqual(certificate.weights, weights_for(found, question))
                if exact_degree(found, question) is None:
                    self.assertIs(type(certificate), ExactAlways)
                else:
                    self.assertIs(type(certificate), ExactUpTo)
                    self.assertEqual(certificate.exact_degree, exact_degree(found, question))
                    self.assertEqual(certificate.miss.degree, certificate.exact_degree + 1)
                    self.assertEqual(found.ask(certificate.miss), [0] * len(found))
                    self.assertNotEqual(question.ask(certificate.miss), 0)
        self.assertGreater(kinds.count(ExactAlways), 20)
        self.assertGreater(kinds.count(ExactUpTo), 100)

    def test_by_hand(self):
        self.assertEqual(exactness(lot("at 0 0"), ask("at 0 0 ask 7")).line(), "exact always: holds")
        certificate = exactness(lot("at 0 0"), ask("at 1 0"))
        self.assertEqual((certificate.line(), certificate.exact_degree), ("exact up to: holds", 0))
        self.assertEqual(exactness(Lot.empty(3), ask("at 1 0 0", 3)).exact_degree, -1)


class Errors(unittest.TestCase):

    def test_dimensions(self):
        wide = lot(*[f"at {k} 0" for k in range(8)])
        for function in FUNCTIONS:
            for found in [Lot.empty(2), lot("at 0 0"), wide]:
                for question in [ask("at 0", 1), ask("at 0 0 0 ask x y z", 3)]:
                    with self.assertRaises(WrongDimension):
                        function(found, question)

    def test_a_width_of_8_and_of_9(self):
        seven = lot(*[f"at {k} 0" for k in range(7)])
        wide = lot(*[f"at {k} 0" for k in range(8)])
        for function in FUNCTIONS:
            function(seven, ask("at 7 0"))
            function(wide, ask("at 7 0 ask 3"))
            for found, question in [(wide, "at 8 0"), (wide, "at 7 0 ask x"), (seven, "at 6 0 ask x y"),
                                    (seven, "at 8 0 ask x"), (Lot.empty(2), "at 0 0 ask x^2 y^2")]:
                with self.assertRaises(TooWide):
                    function(found, ask(question))
        full = lot("at 0 0 0 ask x y z", dimension=3)
        for function in FUNCTIONS:
            function(full, ask("at 0 0 0 ask -2 x y z", 3))
            function(full, ask("at 0 0 0 ask 1 + x y", 3))
            with self.assertRaises(TooWide):
                function(full, ask("at 0 0 0 ask x^2", 3))

    def test_long_coordinates(self):
        drawn = Drawn(107)
        for dimension in [1, 2, 3]:
            spots = [[Ratio(drawn.integer(-999, 999), drawn.integer(900, 999)) for _ in range(dimension)]
                     for _ in range(8)]
            self.assertIs(exactness(Lot.heights(dimension, spots[:7]), Question.height(spots[7])).holds(), True)


if __name__ == "__main__":
    unittest.main()

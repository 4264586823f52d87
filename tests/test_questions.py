import unittest
from math import factorial

from spotheights.calculus import apply_operator, pairing
from spotheights.errors import BadIndex, TooLarge, WrongDimension, ZeroOperator
from spotheights.monomials import monomials_up_to
from spotheights.polynomials import Polynomial
from spotheights.questions import Question
from spotheights.ratios import Ratio
from tests.helpers import Drawn, poly, ratios, texts


class Making(unittest.TestCase):

    def test_attributes(self):
        spot, operator = ratios("1/2 -3"), poly("1 + x")
        for given in [spot, tuple(spot)]:
            question = Question(given, operator)
            self.assertIsInstance(question.spot, tuple)
            self.assertEqual(texts(question.spot), ["1/2", "-3"])
            self.assertEqual(question.operator, poly("1 + x"))
            self.assertEqual(question.dimension, 2)

    def test_the_spot_is_copied(self):
        spot = ratios("1 2")
        question = Question(spot, poly("1"))
        spot[0] = Ratio(7)
        self.assertEqual(str(question), "at 1 2")

    def test_coordinates(self):
        for text in ["999", "-999", "1/999", "-999/998", "998/999", "0"]:
            self.assertEqual(str(Question(ratios(text), poly("1", 1)).spot[0]), text)
            self.assertEqual(str(Question(ratios("0 0 " + text), poly("z^4", 3)).spot[2]), text)
        for text in ["1000", "-1000", "1/1000", "-1/1000", "1000/999", "999/1000", "1" + "0" * 50]:
            for spot, operator in [(ratios(text), poly("1", 1)), (ratios("0 " + text), poly("x"))]:
                with self.subTest(text), self.assertRaises(TooLarge):
                    Question(spot, operator)

    def test_operators(self):
        for text in ["x^4", "-1 + x^2 y^2", "-1/2"]:
            self.assertEqual(str(Question(ratios("0 0"), poly(text)).operator), str(poly(text)))
        for text, error in [("0", ZeroOperator), ("x^5", TooLarge), ("1 + x^2 y^3", TooLarge), ("y^16", TooLarge)]:
            with self.subTest(text), self.assertRaises(error):
                Question(ratios("0 0"), poly(text))

    def test_wrong_dimensions(self):
        for spot, dimension in [("", 1), ("1 2 3 4", 3), ("1 2", 1), ("1", 2), ("1 2 3", 2)]:
            with self.subTest(spot), self.assertRaises(WrongDimension):
                Question(ratios(spot), poly("1", dimension))

    def test_the_order_of_the_errors(self):
        for spot, operator, error in [
            ("1000 0 0 0", poly("0", 1), WrongDimension), ("", poly("x^5", 1), WrongDimension),
            ("1000 0", poly("0", 1), TooLarge), ("0 1/1000", poly("x^5", 3), TooLarge), ("1000 0", poly("0"), TooLarge),
            ("0 0", poly("0", 1), WrongDimension), ("0 0", poly("x^5", 3), WrongDimension),
        ]:
            with self.subTest(spot), self.assertRaises(error):
                Question(ratios(spot), operator)

    def test_class_methods(self):
        for dimension in [1, 2, 3]:
            spot = ratios("1/2 -3 5")[:dimension]
            self.assertEqual(Question.height(spot), Question(spot, poly("1", dimension)))
            for index in range(dimension):
                self.assertEqual(Question.slope(spot, index), Question(spot, Polynomial.coordinate(dimension, index)))
        self.assertEqual(str(Question.height(tuple(ratios("1 2")))), "at 1 2")
        self.assertEqual(str(Question.slope(ratios("1 2"), 1)), "at 1 2 ask y")

    def test_errors_of_class_methods(self):
        for spot, error in [("", WrongDimension), ("1 2 3 4", WrongDimension), ("1000 2 3 4", WrongDimension),
                            ("1000 1", TooLarge), ("0 1/1000", TooLarge)]:
            with self.subTest(spot), self.assertRaises(error):
                Question.height(ratios(spot))
            for index in [0, -1, 9]:
                with self.subTest(spot), self.assertRaises(error):
                    Question.slope(ratios(spot), index)
        for index in [-1, 2, 3]:
            with self.assertRaises(BadIndex):
                Question.slope(ratios("1 2"), index)
        self.assertEqual(str(Question.slope(ratios("1 2 3"), 2)), "at 1 2 3 ask z")


class Answers(unittest.TestCase):

    def test_by_hand(self):
        found = poly("1 - x + 3/2 x y^2")
        self.assertEqual(str(Question(ratios("2 -1/3"), poly("1")).ask(found)), "-2/3")
        self.assertEqual(str(Question(ratios("2 -1/3"), poly("x")).ask(found)), "-5/6")
        self.assertEqual(str(Question(ratios("2 -1/3"), poly("1 + x")).ask(found)), "-3/2")
        self.assertEqual(str(Question(ratios("0 0"), poly("x y^2")).ask(found)), "3")
        self.assertEqual(Question(ratios("7 9"), poly("x^4")).ask(found), 0)
        self.assertIsInstance(Question(ratios("7 9"), poly("x")).ask(poly("0")), Ratio)
        self.assertEqual(Question(ratios("7 9"), poly("x")).ask(poly("0")), 0)

    def test_it_is_the_value_of_what_the_operator_makes(self):
        drawn = Drawn(67)
        for dimension in [1, 2, 3]:
            for _ in range(15):
                operator = drawn.polynomial(dimension, 4) + Polynomial.constant(dimension, Ratio(1000))
                question, found = Question(drawn.row(dimension), operator), drawn.polynomial(dimension, 8)
                self.assertEqual(question.ask(found), apply_operator(operator, found)(question.spot))

    def test_degree_16(self):
        question = Question(ratios("-999/998 1/2 3"), poly("-1/3 x y + z^4", 3))
        found = Polynomial(3, [(place, Ratio(k + 1, k + 2)) for k, place in enumerate(monomials_up_to(3, 16))])
        self.assertEqual(question.ask(found), apply_operator(question.operator, found)(question.spot))

    def test_long_numbers_of_degree_16(self):
        found = Polynomial(3, [(place, Ratio(1, 10 ** 59 + 7 * k)) for k, place in enumerate(monomials_up_to(3, 16))])
        question = Question.height(ratios("1 0 0"))
        along = Polynomial(1, [((place[0],), number) for place, number in found.terms() if not any(place[1:])])
        self.assertEqual(question.ask(found), along(ratios("1")))

    def test_unlike_dimensions(self):
        for dimension in [1, 3]:
            for text in ["0", "x"]:
                with self.assertRaises(WrongDimension):
                    Question.height(ratios("1 2")).ask(poly(text, dimension))

    def test_arguments_and_question_do_not_change(self):
        question, found = Question(ratios("1 2"), poly("x")), poly("x^2")
        question.ask(found), question.series(3)
        self.assertEqual((str(question), str(found)), ("at 1 2 ask x", "x^2"))


class Series(unittest.TestCase):

    def test_by_hand(self):
        self.assertEqual(str(Question(ratios("2"), poly("1", 1)).series(3)), "1 + 2 x + 2 x^2 + 4/3 x^3")
        self.assertEqual(str(Question(ratios("2"), poly("x", 1)).series(3)), "x + 2 x^2 + 2 x^3")
        self.assertEqual(str(Question(ratios("0 0"), poly("-3 + x y")).series(16)), "-3 + x y")
        self.assertEqual(Question(ratios("0 0"), poly("x y")).series(1), poly("0"))

    def test_coefficients_are_answers_over_factorials(self):
        question = Question(ratios("1/2 -3"), poly("1 - x y + 2 y^3"))
        for degree in range(-1, 7):
            found = question.series(degree)
            self.assertLessEqual(found.degree, degree)
            for place in monomials_up_to(2, degree):
                answer = question.ask(Polynomial.monomial(place))
                self.assertEqual(found.coefficient(place) * factorial(place[0]) * factorial(place[1]), answer)

    def test_no_terms(self):
        for dimension in [1, 2, 3]:
            found = Question.height(ratios("1 2 3")[:dimension]).series(-1)
            self.assertEqual(found, Polynomial.zero(dimension))

    def test_the_answer_is_the_pairing_with_the_series(self):
        drawn = Drawn(71)
        for dimension in [1, 2, 3]:
            question = Question(drawn.row(dimension), drawn.polynomial(dimension, 4) + drawn.polynomial(dimension, 0))
            for degree in [0, 1, 5, 16]:
                series = question.series(degree)
                for _ in range(4):
                    found = drawn.polynomial(dimension, degree)
                    self.assertEqual(question.ask(found), pairing(found, series))


class Comparing(unittest.TestCase):

    def test_equality(self):
        question = Question(ratios("1 2"), poly("x"))
        self.assertTrue(question == Question((Ratio(1), Ratio(4, 2)), poly("x")))
        for other in [Question(ratios("1 3"), poly("x")), Question(ratios("1 2"), poly("2 x")),
                      Question(ratios("1 2 0"), poly("x", 3)), Question(ratios("1"), poly("x", 1))]:
            self.assertFalse(question == other)
            self.assertTrue(question != other)
        self.assertIs(question == "at 1 2 ask x", False)

    def test_written_forms(self):
        for spot, operator, text in [("1/2 0", poly("1"), "at 1/2 0"), ("-3 7", poly("1 + x^2"), "at -3 7 ask 1 + x^2"),
                                     ("0", poly("-1", 1), "at 0 ask -1"), ("0", poly("2", 1), "at 0 ask 2"),
                                     ("1 2 3", poly("-z", 3), "at 1 2 3 ask -z")]:
            self.assertEqual(str(Question(ratios(spot), operator)), text)

    def test_long_operators_are_written(self):
        operator = Polynomial(1, [((1,), Ratio(1, 10 ** 5000))])
        self.assertEqual(str(Question(ratios("0"), operator)), "at 0 ask 1/1" + "0" * 5000 + " x")


if __name__ == "__main__":
    unittest.main()

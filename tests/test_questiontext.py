import unittest

from spotheights.errors import BadQuestion, BadText, WrongDimension
from spotheights.monomials import monomials_up_to
from spotheights.polynomials import Polynomial
from spotheights.questions import Question
from spotheights.questiontext import read_question
from spotheights.ratios import Ratio
from tests.helpers import Drawn, poly, ratios


class Reading(unittest.TestCase):

    def assert_refused(self, text, dimension=2):
        with self.assertRaises(BadQuestion) as caught:
            read_question(text, dimension)
        self.assertIsInstance(caught.exception, BadText)
        self.assertEqual(caught.exception.text, text)

    def test_example(self):
        self.assertEqual(str(read_question("at 1/2 -1 ask x", 2).ask(poly("x^2 y"))), "-1")

    def test_written_forms_are_read(self):
        for dimension, text in [(1, "at 0"), (2, "at 1/2 0"), (2, "at -3 7 ask 1 + x^2"), (3, "at 1 2 3 ask -z"),
                                (1, "at 999 ask -1"), (1, "at -999/998 ask 9999/9998 x^4"), (2, "at 1/999 0 ask 2"),
                                (3, "at 0 0 0 ask -1/9999 x y z^2")]:
            found = read_question(text, dimension)
            self.assertIsInstance(found, Question)
            self.assertEqual(str(found), text)
        self.assertEqual(read_question("at 1/2 0", 2), Question.height(ratios("1/2 0")))
        self.assertEqual(read_question("at -3 7 ask 1 + x^2", 2), Question(ratios("-3 7"), poly("1 + x^2")))

    def test_what_is_written_is_read(self):
        drawn = Drawn(73)
        for dimension in [1, 2, 3]:
            for _ in range(60):
                operator = drawn.polynomial(dimension, 4, 5, 6) + Polynomial.constant(dimension, Ratio(35))
                question = Question(drawn.row(dimension, 999), operator)
                self.assertEqual(read_question(str(question), dimension), question)

    def test_the_longest_operator(self):
        terms = [(place, Ratio(-9998, 9999)) for place in monomials_up_to(3, 4)]
        question = Question(ratios("-998/999 -998/999 -998/999"), Polynomial(3, terms))
        self.assertEqual(read_question(str(question), 3), question)

    def test_limits_of_the_numbers(self):
        for text in ["at 1000 0", "at 0 -1000", "at 1/1000 0", "at 0 1/1000", "at 0 1" + "0" * 5000, "at 0 0 ask 10000",
                     "at 0 0 ask -10000 x", "at 0 0 ask 1/10000", "at 0 0 ask x - 1/10000 y",
                     "at 0 0 ask 1" + "0" * 5000 + " x", "at 0 0 ask x + 10001/10000 y"]:
            self.assert_refused(text)

    def test_operators_that_are_none(self):
        for text in ["at 0 0 ask 0", "at 0 0 ask x^5", "at 0 0 ask x^3 y^2", "at 0 0 ask 1", "at 0 0 ask z",
                     "at 0 0 ask x + 1", "at 0 0 ask", "at 0 0 ask ", "at 0 0 ask  x", "at 0 0 ask x ",
                     "at 0 0 ask x ask x", "at 0 0 ask ask x", "at 0 0 ask x^17", "at 0 0 ask 2/2 x"]:
            self.assert_refused(text)

    def test_spots_that_are_none(self):
        for text in ["at", "at ", "at 0", "at 0 0 0", "at 0  0", "at  0 0", "at 0 0 ", " at 0 0", "at 2/4 0", "at -0 0",
                     "at +1 0", "at 01 0", "at 1/0 0", "at 0 x", "at 0,0", "at (0 0)", "at ask x", "at 0 ask x",
                     "at 0 0 0 ask x", "at\t0 0", "at 0 0\n", "at 0 \u0663", "at 0\u00a00"]:
            self.assert_refused(text)

    def test_other_words(self):
        for text in ["", " ", "x", "it 0 0", "At 0 0", "AT 0 0", "0 0", "at0 0", "a 0 0", "at 0 0 ASK x", "at 0 0 asks x",
                     "at 0 0 x", "at 0 0 1", "ask x", "ask x at 0 0", "at at 0 0", "put at 0 0"]:
            self.assert_refused(text)

    def test_another_dimension(self):
        for dimension, text in [(1, "at 0 0"), (3, "at 0 0"), (1, "at 0 ask y"), (2, "at 0"), (1, "at")]:
            self.assert_refused(text, dimension)

    def test_long_texts(self):
        for text in ["at " * 50000, "at 0 " + "0" * 100000, "at 0 0 ask " + "x + " * 50000 + "y", "at" + " 0" * 100000,
                     "at 0 0" + " ask x" * 30000, "1" * 6000, " " * 90000, "at 0 0 ask x^" + "9" * 6000]:
            with self.subTest(text[:12]):
                self.assert_refused(text)

    def test_wrong_dimensions_come_first(self):
        for dimension in [0, 4, -1]:
            for text in ["at 0", "at", "", "at 0 0 0 0", "no question"]:
                with self.assertRaises(WrongDimension):
                    read_question(text, dimension)


if __name__ == "__main__":
    unittest.main()

import unittest
from math import prod

from spotheights.calculus import apply_operator, pairing
from spotheights.errors import BadIndex, Dependent, Singular, TooLarge, TooWide, WrongCount, WrongDimension
from spotheights.lots import Lot
from spotheights.monomials import monomials_up_to
from spotheights.polynomials import Polynomial
from spotheights.questions import Question
from spotheights.questiontext import read_question
from spotheights.ratios import Ratio
from spotheights.spaces import Space
from spotheights.substitution import changed, embedded
from tests.helpers import Drawn, ask, lot, many_lots, mixed, plain_lots, poly, ratios, table, texts


def width_of(questions, dimension):
    """The width by its definition: for each spot the dimension of what the operators and all derivatives span."""
    asked = {}
    for question in questions:
        rules = monomials_up_to(dimension, 4)
        asked.setdefault(str(question).partition(" ask ")[0], []).extend(
            [apply_operator(Polynomial.monomial(rule), question.operator) for rule in rules])
    return sum([len(Space(dimension, operators)) for operators in asked.values()])


class Making(unittest.TestCase):

    def test_attributes(self):
        found = lot("at 0 0", "at 1 1 ask x", "at 1 1 ask y")
        self.assertEqual((found.dimension, found.width, found.plain, len(found)), (2, 4, False, 3))
        found = lot("at 0 0 0", "at 1 1 1 ask -5", dimension=3)
        self.assertEqual((found.dimension, found.width, len(found)), (3, 2, 2))
        self.assertIs(found.plain, True)
        self.assertIs(lot("at 0 ask 1 + x", dimension=1).plain, False)

    def test_the_empty_lot(self):
        for dimension in [1, 2, 3]:
            for found in [Lot(dimension), Lot(dimension, []), Lot(dimension, ()), Lot.empty(dimension)]:
                self.assertEqual((found.dimension, found.width, len(found), list(found)), (dimension, 0, 0, []))
                self.assertIs(found.plain, True)
                self.assertEqual(found.ask(poly("1 + x", dimension)), [])
                self.assertEqual(found.table([(1,) * dimension]), [])

    def test_dimensions(self):
        for dimension in [0, -1, 4, 10 ** 20]:
            for make in [Lot, Lot.empty, lambda number: Lot(number, [ask("at 0", 1)]),
                         lambda number: Lot.heights(number, []), lambda number: Lot.heights(number, [ratios("1 2")])]:
                with self.assertRaises(WrongDimension):
                    make(dimension)
        for questions in [["at 0"], ["at 0 0 0"]]:
            with self.assertRaises(WrongDimension):
                Lot(2, [ask("at 1 1"), *[read_question(text, text.count("0")) for text in questions]])

    def test_questions_are_copied_and_kept_in_order(self):
        questions = [ask("at 1 1"), ask("at 0 0 ask x"), ask("at 0 0")]
        for given in [questions, tuple(questions)]:
            found = Lot(2, given)
            self.assertEqual(texts(found), texts(questions))
        found = Lot(2, questions)
        questions.clear()
        self.assertEqual(texts(found), ["at 1 1", "at 0 0 ask x", "at 0 0"])
        self.assertEqual(found.width, 3)

    def test_heights(self):
        spots = [ratios("0 0"), tuple(ratios("1/2 -3"))]
        found = Lot.heights(2, spots)
        self.assertEqual(found, lot("at 0 0", "at 1/2 -3"))
        self.assertEqual(Lot.heights(2, tuple(spots)), found)
        self.assertEqual(texts(spots[0]), ["0", "0"])
        self.assertEqual(Lot.heights(3, []), Lot.empty(3))
        for text in ["999", "-999", "1/999"]:
            self.assertEqual(texts(Lot.heights(1, [ratios(text)])), ["at " + text])

    def test_heights_make_all_questions_first(self):
        same = ratios("1 1")
        for spots, error in [
            ([same, same, ratios("1000 0")], TooLarge), ([same, same, ratios("1")], WrongDimension),
            ([same, same], Dependent), ([ratios("0 1/1000"), ratios("1")], TooLarge),
            ([ratios("1"), ratios("0 1/1000")], WrongDimension), ([ratios("1000")], WrongDimension),
            ([ratios("1000 1 1")], WrongDimension), ([[]], WrongDimension),
            ([[Ratio(k), Ratio(0)] for k in range(9)] + [ratios("1000 0")], TooLarge),
            ([[Ratio(k), Ratio(0)] for k in range(9)], TooWide),
        ]:
            with self.assertRaises(error):
                Lot.heights(2, spots)


class Independence(unittest.TestCase):

    def assert_dependent(self, questions, weights, dimension=2):
        with self.assertRaises(Dependent) as caught:
            lot(*questions, dimension=dimension)
        self.assertIsInstance(caught.exception.weights, list)
        for number in caught.exception.weights:
            self.assertIsInstance(number, Ratio)
        self.assertEqual(texts(caught.exception.weights), weights.split())

    def test_examples(self):
        self.assert_dependent(["at 0 ask x", "at 0 ask 1/2 x"], "-1/2 1", 1)
        self.assertEqual(lot("at 1 0 ask x y").width, 4)

    def test_a_question_put_twice(self):
        self.assert_dependent(["at 1 2", "at 1 2"], "-1 1")
        self.assert_dependent(["at 1 2", "at 3 4", "at 1 2 ask -3"], "3 0 1")
        self.assert_dependent(["at 1/2 0 ask 1 + x", "at 1/2 0 ask -1 - x"], "1 1")
        self.assert_dependent(["at 0 0 0 ask z", "at 0 0 1 ask z", "at 0 0 1 ask 7 z"], "0 -7 1", 3)

    def test_combinations(self):
        self.assert_dependent(["at 0 0", "at 5 5", "at 0 0 ask x", "at 5 5 ask y", "at 0 0 ask 1 - x"], "-1 0 1 0 1")
        self.assert_dependent(["at 0 0 ask x + y", "at 0 0 ask x - y", "at 0 0 ask x"], "-1/2 -1/2 1")
        self.assert_dependent(["at 0 ask 2 + x", "at 1", "at 0", "at 0 ask 9999 x + 1/9999 x^2",
                               "at 0 ask 1/2 x - x^2"], "-199960003/2 0 199960003 9999 1", 1)

    def test_equal_numbers_are_one_spot(self):
        with self.assertRaises(Dependent):
            Lot(1, [Question([Ratio(1, 2)], poly("1", 1)), Question([Ratio(-2, -4)], poly("1", 1))])

    def test_the_weighted_operators_add_up_to_zero(self):
        drawn = Drawn(5)
        seen = 0
        for found in many_lots():
            for question in found:
                fellows = [k for k, other in enumerate(found) if other.spot == question.spot]
                numbers = [drawn.integer(-3, 3) for _ in fellows]
                operator = mixed([found.question_at(k).operator for k in fellows], numbers, found.dimension)
                if operator:
                    with self.assertRaises(Dependent) as caught:
                        found.with_question(Question(question.spot, operator))
                    wanted = [0] * len(found) + [1]
                    for k, number in zip(fellows, numbers):
                        wanted[k] = -number
                    self.assertEqual(caught.exception.weights, wanted)
                    seen += 1
        self.assertGreater(seen, 100)

    def test_the_first_thing_that_calls_for_an_error(self):
        wide = ["at 0 0 ask x y + x^4", "at 1 0 ask x^2 y^2"]
        for questions, error in [(wide, TooWide), (["at 0 0", "at 0 0", *wide], Dependent),
                                 ([*wide, "at 0 0", "at 0 0"], TooWide)]:
            with self.assertRaises(error):
                lot(*questions)
        questions = [ask("at 0 0"), ask("at 0 0"), ask("at 0", 1)]
        with self.assertRaises(Dependent):
            Lot(2, questions)
        with self.assertRaises(WrongDimension):
            Lot(2, questions[1:])
        full = [ask(f"at {k} 0") for k in range(8)]
        with self.assertRaises(Dependent):
            Lot(2, [*full, ask("at 3 0 ask 2")])
        with self.assertRaises(TooWide):
            Lot(2, [*full, ask("at 3 1 ask 2")])
        with self.assertRaises(WrongDimension):
            Lot(2, [*full, ask("at 3", 1)])

    def test_handed_out_weights_are_those_of_the_error_alone(self):
        found = lot("at 1 2")
        for _ in range(2):
            with self.assertRaises(Dependent) as caught:
                found.with_question(ask("at 1 2"))
            self.assertEqual(caught.exception.weights, [-1, 1])
            caught.exception.weights.clear()


class Widths(unittest.TestCase):

    def test_by_hand(self):
        for dimension, questions, width in [
            (1, ["at 0 ask x^4"], 5), (1, ["at 0 ask x^4", "at 0 ask x^2"], 5), (1, ["at 0 ask x^4", "at 1 ask x^2"], 8),
            (1, ["at 0 ask 1 + x"], 2), (2, ["at 0 0 ask x^2 - y^2"], 4), (2, ["at 0 0 ask x^2 y^2", ], None),
            (2, ["at 0 0 ask x^3 y"], 8), (2, ["at 0 0 ask x^3 y", "at 0 0 ask x^2 y", "at 0 0"], 8),
            (2, ["at 0 0 ask x^3 y", "at 0 0 ask y^2"], None), (2, ["at 0 0 ask x^3 y", "at 1 0"], None),
            (2, ["at 0 0 ask x^4 + y^4"], 8), (3, ["at 0 0 0 ask x y z"], 8), (3, ["at 0 0 0 ask x + y + z"], 2),
            (3, ["at 0 0 0 ask x^2 + y^2 + z^2"], 5), (3, ["at 0 0 0 ask x y z", "at 0 0 0 ask x^2"], None),
            (3, ["at 0 0 0 ask x^4 + y^4 + z^4"], None), (1, ["at 1 ask x^3", "at 2 ask x^3"], 8),
            (1, ["at 1 ask x^3", "at 2 ask x^4"], None),
        ]:
            with self.subTest(str(questions)):
                if width is None:
                    with self.assertRaises(TooWide):
                        lot(*questions, dimension=dimension)
                else:
                    self.assertEqual(lot(*questions, dimension=dimension).width, width)

    def test_exactly_8_and_9(self):
        for dimension in [1, 2, 3]:
            spots = [[Ratio(k, 7)] * dimension for k in range(9)]
            self.assertEqual(Lot.heights(dimension, spots[:8]).width, 8)
            with self.assertRaises(TooWide):
                Lot.heights(dimension, spots)

    def test_by_the_definition(self):
        for found in many_lots():
            self.assertEqual(found.width, width_of(found, found.dimension))
            self.assertLessEqual(len(found), found.width)
            self.assertIs(found.plain, all([question.operator.degree == 0 for question in found]))

    def test_a_plain_lot_is_as_wide_as_it_is_long(self):
        for found in plain_lots():
            self.assertEqual(found.width, len(found))

    def test_the_width_is_that_of_the_questions_up_to_the_refused_one(self):
        # The third question adds nothing to the width: what it asks is a derivative of what is asked already.
        found = lot("at 0 0 ask x^3 y", "at 0 0 ask x^3", "at 0 0 ask x y", "at 0 0 ask 1 + x")
        self.assertEqual((found.width, len(found)), (8, 4))


class Answers(unittest.TestCase):

    def test_ask(self):
        found = lot("at 0 0", "at 1 2 ask x", "at 1 2 ask x y")
        self.assertEqual(texts(found.ask(poly("3 + x y - x^2 y^2"))), ["3", "-6", "-7"])
        for one in many_lots():
            polynomial = Drawn(7).polynomial(one.dimension, 8, 9)
            answers = one.ask(polynomial)
            self.assertIsInstance(answers, list)
            self.assertEqual(answers, [question.ask(polynomial) for question in one])

    def test_ask_up_to_degree_16(self):
        polynomial = poly("1/2 x^16 - x^8 y^8 + y^16")
        self.assertEqual(texts(lot("at 1 1", "at -2 1 ask x y", "at 0 0").ask(polynomial)), ["1/2", "8192", "0"])
        found = lot("at 999 -999 1/999 ask x y z", dimension=3)
        self.assertEqual(found.ask(poly("x^15 y", 3)), [0])

    def test_table(self):
        places = [(1, 0), (0, 0), (2, 2), (1, 0), (16, 0)]
        for given in [places, tuple(places)]:
            found = lot("at 0 0", "at 2 -1/2 ask 1 + x").table(given)
            self.assertEqual([texts(row) for row in found], [["0", "1", "0", "0", "0"], ["3", "1", "2", "3", "589824"]])
        self.assertEqual(lot("at 0 0", "at 1 1").table([]), [[], []])
        for one in many_lots():
            places = list(monomials_up_to(one.dimension, 6))
            columns = [one.ask(Polynomial.monomial(place)) for place in places]
            self.assertEqual(one.table(places), [[column[k] for column in columns] for k in range(len(one))])

    def test_tables_are_new(self):
        found, places = lot("at 0 0", "at 1 1"), [(0, 0), (1, 1)]
        rows = found.table(places)
        rows[0][0] = None
        rows.clear()
        self.assertEqual(found.table(places), [[1, 0], [1, 1]])
        self.assertEqual(places, [(0, 0), (1, 1)])

    def test_wrong_dimensions(self):
        for found in [Lot.empty(2), lot("at 1 1")]:
            for dimension in [1, 3]:
                for text in ["0", "x"]:
                    with self.assertRaises(WrongDimension):
                        found.ask(poly(text, dimension))
            for places in [[(1,)], [(1, 1), (0, 0, 0)], [()]]:
                with self.assertRaises(WrongDimension):
                    found.table(places)

    def test_question_at(self):
        found = lot("at 0 0", "at 1 2 ask x")
        self.assertEqual([str(found.question_at(k)) for k in [0, 1]], ["at 0 0", "at 1 2 ask x"])
        for index in [-1, 2, -2, 10 ** 20]:
            with self.assertRaises(BadIndex):
                found.question_at(index)
        with self.assertRaises(BadIndex):
            Lot.empty(1).question_at(0)


class Comparing(unittest.TestCase):

    def test_equality(self):
        found = lot("at 0 0", "at 1 1 ask x")
        self.assertTrue(found == lot("at 0 0", "at 1 1 ask x"))
        self.assertFalse(found != lot("at 0 0", "at 1 1 ask x"))
        for other in [lot("at 1 1 ask x", "at 0 0"), lot("at 0 0"), lot("at 0 0", "at 1 1 ask 2 x"), Lot.empty(2)]:
            self.assertFalse(found == other)
            self.assertTrue(found != other)
        self.assertTrue(Lot.empty(2) == Lot(2))
        self.assertIs(Lot.empty(2) == Lot.empty(3), False)
        for other in [[ask("at 0 0"), ask("at 1 1 ask x")], None, 2, "lot"]:
            self.assertIs(found == other, False)


class Sums(unittest.TestCase):

    def test_by_hand(self):
        first, second = lot("at 0 0", "at 1 1"), lot("at 1 1 ask x")
        self.assertEqual(first + second, lot("at 0 0", "at 1 1", "at 1 1 ask x"))
        self.assertEqual(second + first, lot("at 1 1 ask x", "at 0 0", "at 1 1"))
        self.assertEqual((first, second), (lot("at 0 0", "at 1 1"), lot("at 1 1 ask x")))
        self.assertEqual(first + Lot.empty(2), first)
        self.assertEqual(Lot.empty(2) + first, first)

    def test_it_is_checked(self):
        with self.assertRaises(Dependent) as caught:
            lot("at 0 0", "at 1 1") + lot("at 5 5", "at 1 1 ask 4")
        self.assertEqual(caught.exception.weights, [0, -4, 0, 1])
        with self.assertRaises(TooWide):
            lot("at 0 0 ask x^2 y") + lot("at 1 1 ask x + y", "at 2 2")
        for dimension in [1, 3]:
            with self.assertRaises(WrongDimension):
                Lot.empty(2) + Lot.empty(dimension)

    def test_with_question(self):
        found = lot("at 0 0")
        self.assertEqual(found.with_question(ask("at 0 0 ask x")), lot("at 0 0", "at 0 0 ask x"))
        self.assertEqual(found, lot("at 0 0"))
        self.assertEqual(Lot.empty(1).with_question(ask("at 3", 1)), lot("at 3", dimension=1))
        with self.assertRaises(WrongDimension):
            found.with_question(ask("at 0 0 0", 3))
        with self.assertRaises(Dependent):
            found.with_question(ask("at 0 0 ask 2"))
        with self.assertRaises(TooWide):
            found.with_question(ask("at 0 1 ask x^3 y"))


class Products(unittest.TestCase):

    def test_by_hand(self):
        first = lot("at 1", "at 2 ask x", dimension=1)
        second = lot("at 3", "at 4 ask -2", dimension=1)
        self.assertEqual(texts(first * second), ["at 1 3", "at 1 4 ask -2", "at 2 3 ask x", "at 2 4 ask -2 x"])
        second = lot("at 4 ask 1 - x", dimension=1)
        self.assertEqual(texts(first * second), ["at 1 4 ask 1 - y", "at 2 4 ask x - x y"])
        self.assertEqual((first * second).dimension, 2)
        flat = lot("at 5 6 ask x + y^2")
        self.assertEqual(texts(flat * lot("at 1 ask 2", dimension=1)), ["at 5 6 1 ask 2 x + 2 y^2"])
        self.assertEqual(texts(lot("at 1 ask 2", dimension=1) * flat), ["at 1 5 6 ask 2 y + 2 z^2"])

    def test_widths_are_multiplied(self):
        lots = [one for one in many_lots() if one.dimension < 3]
        seen = 0
        for first in lots:
            for second in lots:
                if first.dimension + second.dimension > 3:
                    continue
                if first.width * second.width > 8:
                    with self.assertRaises(TooWide):
                        first * second
                    continue
                found = first * second
                self.assertEqual(found.width, first.width * second.width)
                self.assertEqual(len(found), len(first) * len(second))
                self.assertEqual(found.width, width_of(found, found.dimension))
                seen += len(found) > 0
        self.assertGreater(seen, 20)

    def test_answers_are_multiplied(self):
        drawn = Drawn(11)
        first, second = lot("at 1/2 ask 1 + x^2", dimension=1), lot("at 0 3", "at 1 1", dimension=2)
        low, high = drawn.polynomial(1, 5), drawn.polynomial(2, 5)
        product = embedded(low, 3, 0) * embedded(high, 3, 1)
        self.assertEqual((first * second).ask(product), [a * b for a in first.ask(low) for b in second.ask(high)])

    def test_the_greatest_operators(self):
        found = lot("at 0 ask x^3", dimension=1) * lot("at 0 ask x", dimension=1)
        self.assertEqual((texts(found), found.width), (["at 0 0 ask x^3 y"], 8))

    def test_empty_lots(self):
        wide = lot(*[f"at {k}" for k in range(8)], dimension=1)
        for found in [wide * Lot.empty(1), Lot.empty(1) * wide, Lot.empty(1) * Lot.empty(1)]:
            self.assertEqual(found, Lot.empty(2))
        self.assertEqual(Lot.empty(1) * Lot.empty(2), Lot.empty(3))

    def test_errors(self):
        wide = lot(*[f"at {k}" for k in range(8)], dimension=1)
        for first, second in [(Lot.empty(2), Lot.empty(2)), (Lot.empty(3), wide), (wide, Lot.empty(3)),
                              (lot("at 0 0 ask x^3 y"), lot("at 0 0 ask x^3 y"))]:
            with self.assertRaises(WrongDimension):
                first * second
        with self.assertRaises(TooWide):
            wide * wide
        with self.assertRaises(TooWide):
            lot("at 0 ask x^4", dimension=1) * lot("at 0 ask x", dimension=1)


class Parts(unittest.TestCase):

    def test_by_hand(self):
        found = lot("at 0 0", "at 1 1", "at 1 1 ask x", "at 2 2")
        for indexes, wanted in [([2, 0], ["at 1 1 ask x", "at 0 0"]), ([], []), ((3,), ["at 2 2"]),
                                ([3, 2, 1, 0], ["at 2 2", "at 1 1 ask x", "at 1 1", "at 0 0"])]:
            self.assertEqual(found.part(indexes), lot(*wanted))
        self.assertEqual(found.part([2]).width, 2)
        self.assertEqual(len(found), 4)

    def test_errors(self):
        found = lot("at 0 0", "at 1 1")
        for indexes in [[2], [-1], [0, 0], [1, 0, 1], [0, 10 ** 20], (1, 1), [0, 1, 2]]:
            with self.assertRaises(BadIndex):
                found.part(indexes)
        with self.assertRaises(BadIndex):
            Lot.empty(2).part([0])
        self.assertEqual(Lot.empty(2).part([]), Lot.empty(2))

    def test_the_argument_does_not_change(self):
        indexes = [1, 0]
        lot("at 0 0", "at 1 1").part(indexes)
        self.assertEqual(indexes, [1, 0])


class Moves(unittest.TestCase):

    def test_shifts(self):
        found, by = lot("at 0 1/2", "at 1 1 ask x + y^2"), ratios("-1/2 3")
        self.assertEqual(found.shifted(by), lot("at -1/2 7/2", "at 1/2 4 ask x + y^2"))
        self.assertEqual(found.shifted(tuple(by)), found.shifted(by))
        self.assertEqual((texts(by), texts(found)), (["-1/2", "3"], ["at 0 1/2", "at 1 1 ask x + y^2"]))
        self.assertEqual(Lot.empty(3).shifted(ratios("1 2 3")), Lot.empty(3))
        self.assertEqual(texts(lot("at 998", dimension=1).shifted(ratios("1"))), ["at 999"])

    def test_errors_of_shifts(self):
        for found in [Lot.empty(2), lot("at 999 0"), lot("at 0 0")]:
            for by in [[], ratios("1"), ratios("1 2 3")]:
                with self.assertRaises(WrongDimension):
                    found.shifted(by)
        for text in ["1 0", "1/999 0", "-1999 0", "0 -1000", "0 1/1000"]:
            with self.subTest(text), self.assertRaises(TooLarge):
                lot("at 0 1/2", "at 999 0").shifted(ratios(text))

    def test_changes(self):
        found, matrix = lot("at 1 2", "at 0 1 ask 1 + x - y^2"), table("1 2", "0 3")
        moved = found.changed(matrix)
        self.assertEqual(texts(moved), ["at 5 6", "at 2 3 ask 1 + x - 4 x^2 - 12 x y - 9 y^2"])
        self.assertEqual(found.changed(tuple([tuple(row) for row in matrix])), moved)
        self.assertEqual([texts(row) for row in matrix], [["1", "2"], ["0", "3"]])
        self.assertEqual(texts(found), ["at 1 2", "at 0 1 ask 1 + x - y^2"])
        self.assertEqual(Lot.empty(1).changed(table("5")), Lot.empty(1))

    def test_answers_of_changed_lots(self):
        drawn = Drawn(19)
        for found in many_lots():
            dimension = found.dimension
            matrix = [[Ratio(drawn.integer(-2, 2), drawn.integer(1, 2)) for _ in range(dimension)]
                      for _ in range(dimension)]
            if max([abs(number.top) for question in found for number in question.spot], default=0) > 100:
                continue
            try:
                moved = found.changed(matrix)
            except Singular:
                continue
            self.assertEqual(moved.width, found.width)
            # r(A x) has each variable x_i replaced by the sum of A[i][k] x_k: that is `changed` by the transposed A.
            turned = [[matrix[k][i] for k in range(dimension)] for i in range(dimension)]
            polynomial = drawn.polynomial(dimension, 6)
            self.assertEqual(moved.ask(polynomial), found.ask(changed(polynomial, turned)))

    def test_errors_of_changes(self):
        for found in [Lot.empty(2), lot("at 999 0", "at 0 999"), lot("at 0 0")]:
            for matrix in [[], table("1 0"), table("1 0", "0 1", "0 0"), table("1", "0"), table("0 0", "0 0 0"),
                           table("0 0 0", "0 0 0", "0 0 0"), table("0")]:
                with self.assertRaises(WrongCount):
                    found.changed(matrix)
            for matrix in [table("0 0", "0 0"), table("1 2", "2 4"), table("1/2 1/3", "3 2")]:
                with self.assertRaises(Singular):
                    found.changed(matrix)
        for matrix in [table("2 0", "0 1"), table("1 1/2", "0 1"), table("1/2 0", "0 1/999")]:
            with self.assertRaises(TooLarge):
                lot("at 999 1/999").changed(matrix)

    def test_operators_of_many_digits(self):
        found = lot("at 0 0 ask 1/9999 y + x^4")
        for _ in range(6):
            found = found.changed(table("997/991 1/983", "-1/977 1"))
        self.assertEqual((len(found), found.width), (1, width_of(found, 2)))
        self.assertGreater(len(str(found.question_at(0))), 300)
        with self.assertRaises(Dependent):
            found.with_question(Question(found.question_at(0).spot, found.question_at(0).operator * Ratio(3, 7)))


class Objects(unittest.TestCase):

    def test_nothing_is_changed(self):
        found = lot("at 0 0", "at 1 2 ask x", "at 1 2")
        before = texts(found)
        found + lot("at 7 7"), found.part([0]), found.shifted(ratios("1 1")), found.changed(table("1 1", "0 1"))
        found.ask(poly("x")), found.table([(1, 1)]), found.with_question(ask("at 5 5")), found * Lot.empty(1)
        self.assertEqual((texts(found), found.width, found.plain), (before, 4 - 1, False))

    def test_iteration(self):
        found = lot("at 0 0", "at 1 2 ask x")
        self.assertEqual([[texts(found), texts(found)], len(found)], [[["at 0 0", "at 1 2 ask x"]] * 2, 2])
        list(found).clear()
        self.assertEqual(len(list(found)), 2)
        self.assertEqual(prod([question.operator.degree + 1 for question in found]), 2)

    def test_series_of_products_of_a_pairing(self):
        found = lot("at 1 2 ask 1 + x", "at -1 0 ask y")
        polynomial = poly("3 - x y + x^3")
        self.assertEqual(found.ask(polynomial), [pairing(question.series(3), polynomial) for question in found])


if __name__ == "__main__":
    unittest.main()

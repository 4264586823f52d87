import unittest

from spotheights.calculus import derivative
from spotheights.closure import filled, judge_closure
from spotheights.ideals import Ideal
from spotheights.lots import Lot
from spotheights.polynomials import Polynomial
from spotheights.ratios import Ratio
from spotheights.spaces import Space
from spotheights.spacetools import is_closed
from spotheights.verdicts import Closed, Spoiled
from tests.helpers import Checks, Drawn, all_orders, ask, closed_lots, lot, many_lots, open_lots, plain_lots, poly
from tests.helpers import span_size, table, texts, times_variable, weighted


def operators_at(found, spot):
    return [question.operator for question in found if question.spot == spot]


def is_closed_lot(found):
    """Whether all derivatives are combinations, by ranks of Python's own fractions."""
    for question in found:
        operators = operators_at(found, question.spot)
        more = [derivative(question.operator, variable) for variable in range(found.dimension)]
        if span_size([*operators, *more]) > span_size(operators):
            return False
    return True


class Closures(Checks):

    def test_tables_by_hand(self):
        found = judge_closure(lot("at 2", "at 2 ask x", dimension=1))
        self.assertIsInstance(found, Closed)
        self.assertEqual(found.tables, [table("0 0", "1 0")])
        found = judge_closure(lot("at 1 0 ask x y", "at 1 0 ask 2 y", "at 0 0", "at 1 0 ask x", "at 1 0 ask 3"))
        self.assertEqual(found.tables, [table("0 1/2 0 0 0", "0 0 0 0 0", "0 0 0 0 0", "0 0 0 0 1/3", "0 0 0 0 0"),
                                        table("0 0 0 1 0", "0 0 0 0 2/3", "0 0 0 0 0", "0 0 0 0 0", "0 0 0 0 0")])
        found = judge_closure(lot("at 5 ask x", "at 5 ask 1 + x", dimension=1))
        self.assertEqual(found.tables, [table("-1 1", "-1 1")])

    def test_spoiled_by_hand(self):
        found = judge_closure(lot("at 0", "at 3 ask x", dimension=1))
        self.assertIsInstance(found, Spoiled)
        self.assertEqual((found.variable, found.index), (0, 1))
        self.assert_holds(found)
        self.assert_holds(judge_closure(lot("at 0 0", "at 0 0 ask y", "at 0 0 ask x y")))

    def test_every_lot(self):
        verdicts = {True: 0, False: 0}
        for found in many_lots():
            with self.subTest(texts(found)):
                certificate = judge_closure(found)
                self.assert_holds(certificate)
                self.assertIsInstance(certificate, Closed if is_closed_lot(found) else Spoiled)
                self.assertEqual(certificate.lot, found)
                verdicts[certificate.VERDICT] += 1
        self.assertGreater(min(verdicts.values()), 9)

    def test_tables_make_the_derivatives(self):
        for found in closed_lots():
            tables = judge_closure(found).tables
            self.assertEqual(len(tables), found.dimension)
            for variable, rows in enumerate(tables):
                self.assertEqual(len(rows), len(found))
                for question, weights in zip(found, rows):
                    self.assertIsInstance(weights, list)
                    self.assertEqual(len(weights), len(found))
                    total = Polynomial.zero(found.dimension)
                    for weight, other in zip(weights, found):
                        self.assertTrue(other.spot == question.spot or weight == 0)
                        total = total + other.operator * weight
                    self.assertEqual(total, derivative(question.operator, variable))

    def test_spoiled_polynomials(self):
        for found in open_lots():
            certificate = judge_closure(found)
            self.assertFalse(any(found.ask(certificate.polynomial)))
            product = times_variable(certificate.polynomial, certificate.variable)
            self.assertTrue(found.question_at(certificate.index).ask(product))

    def test_plain_and_empty_lots(self):
        for found in plain_lots():
            zeros = [[Ratio(0)] * len(found)] * len(found)
            self.assertEqual(judge_closure(found).tables, [zeros] * found.dimension)
        for dimension in [1, 2, 3]:
            found = judge_closure(Lot.empty(dimension))
            self.assertEqual(found.tables, [[]] * dimension)
            self.assert_holds(found)
        self.assert_holds(judge_closure(lot("at 1 2 ask -7", "at 0 0 ask 1/3")))

    def test_products_with_vanishing_polynomials(self):
        drawn = Drawn(201)
        for found in closed_lots():
            for polynomial in Ideal(found, all_orders(found.dimension)[0]).basis():
                product = polynomial * drawn.polynomial(found.dimension, 4)
                self.assertFalse(any(found.ask(product)))

    def test_answers_of_products_of_lots_that_are_not_closed(self):
        # The zero polynomial has the answers of the certificate's, but its products have other ones.
        for found in open_lots():
            certificate = judge_closure(found)
            self.assertEqual(found.ask(certificate.polynomial), found.ask(Polynomial.zero(found.dimension)))
            self.assertTrue(any(found.ask(times_variable(certificate.polynomial, certificate.variable))))

    def test_large_lots_of_width_8(self):
        for found in [
            lot("at 997/998 -999 ask 1/9999 - 9997/9996 x^3 + 9999/9998 x^4", "at 997/998 5/991 ask 9998/9999 x + y",
                "at -1/999 1/998"),
            lot("at 1/999 998/997 -999/998 ask -9999/9997 z + x^2 y", dimension=3),
        ]:
            self.assertLessEqual(found.width, 8)
            self.assert_holds(judge_closure(found))
            self.assertEqual(len(filled(found)), found.width)
            self.assert_holds(judge_closure(filled(found)))

    def test_lists_are_new(self):
        found = lot("at 2", "at 2 ask x", dimension=1)
        tables = judge_closure(found).tables
        tables[0][1].clear()
        tables.clear()
        self.assertEqual(judge_closure(found).tables, [table("0 0", "1 0")])
        self.assertEqual(texts(found), ["at 2", "at 2 ask x"])


class Filled(Checks):

    def test_example(self):
        self.assertEqual(texts(filled(lot("at 1 0 ask x y"))),
                         ["at 1 0 ask x y", "at 1 0 ask y", "at 1 0 ask x", "at 1 0"])

    def test_by_hand(self):
        for questions, wanted, dimension in [
            ([], [], 2), (["at 3"], ["at 3"], 1), (["at 3 ask 5"], ["at 3 ask 5"], 1),
            (["at 0 ask x^3"], ["at 0 ask x^3", "at 0 ask 3 x^2", "at 0 ask 6 x", "at 0 ask 6"], 1),
            (["at 0 ask x", "at 1", "at 2 ask x^2"],
             ["at 0 ask x", "at 1", "at 2 ask x^2", "at 0", "at 2 ask 2 x", "at 2 ask 2"], 1),
            (["at 0 ask x", "at 0"], ["at 0 ask x", "at 0"], 1), (["at 0 ask 1 + x"], ["at 0 ask 1 + x", "at 0"], 1),
            (["at 0 0 ask x^2 + y^2"], ["at 0 0 ask x^2 + y^2", "at 0 0 ask 2 x", "at 0 0 ask 2 y", "at 0 0 ask 2"], 2),
            (["at 0 0 ask x^2 + x y"], ["at 0 0 ask x^2 + x y", "at 0 0 ask 2 x + y", "at 0 0 ask x", "at 0 0 ask 2"], 2),
            (["at 0 0 0 ask z", "at 1 1 1 ask x y"],
             ["at 0 0 0 ask z", "at 1 1 1 ask x y", "at 0 0 0", "at 1 1 1 ask y", "at 1 1 1 ask x", "at 1 1 1"], 3),
        ]:
            with self.subTest(str(questions)):
                found = lot(*questions, dimension=dimension)
                self.assertEqual(texts(filled(found)), wanted)
                self.assertEqual(texts(found), questions)

    def test_width_and_closure(self):
        for found in many_lots():
            with self.subTest(texts(found)):
                more = filled(found)
                self.assertIsInstance(more, Lot)
                self.assertEqual((more.dimension, len(more), more.width), (found.dimension, found.width, found.width))
                self.assertTrue(is_closed_lot(more))
                self.assert_holds(judge_closure(more))
                self.assertEqual(more.part(list(range(len(found)))), found)

    def test_the_operators_at_each_spot(self):
        for found in many_lots():
            more = filled(found)
            for question in more:
                told = operators_at(found, question.spot)
                everything = list(told)
                for operator in everything:
                    everything += [derivative(operator, k) for k in range(found.dimension) if operator.degree > 0]
                space = Space(found.dimension, everything[:12])
                for operator in everything[12:]:
                    space = space + Space(found.dimension, [operator])
                self.assertIs(is_closed(space), True)
                self.assertEqual(Space(found.dimension, operators_at(more, question.spot)), space)

    def test_closed_lots_stay(self):
        for found in closed_lots():
            self.assertEqual(filled(found), found)
            self.assertIsInstance(judge_closure(found), Closed)

    def test_answers_to_derivatives(self):
        # In a filled lot the answers of a variable times a polynomial are told by the tables.
        drawn = Drawn(203)
        for found in closed_lots():
            tables = judge_closure(found).tables
            polynomial = drawn.polynomial(found.dimension, 5)
            answers = found.ask(polynomial)
            for variable in range(found.dimension):
                for at, question in enumerate(found):
                    wanted = question.spot[variable] * answers[at] + weighted(answers, tables[variable][at])
                    self.assertEqual(question.ask(times_variable(polynomial, variable)), wanted)

    def test_operators_of_degree_4(self):
        found = filled(Lot(1, [ask("at -999/998 ask 1 + 9999/9998 x^4", 1)]))
        self.assertEqual(texts(found), [f"at -999/998 ask {text}" for text in [
            "1 + 9999/9998 x^4", "19998/4999 x^3", "59994/4999 x^2", "119988/4999 x", "119988/4999"]])
        self.assertEqual(filled(Lot(3, [ask("at 0 0 0 ask x y z", 3)])).width, 8)


if __name__ == "__main__":
    unittest.main()

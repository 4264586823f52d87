import unittest

from spotheights.algebra import multiply_answers, unit_answers, variable_table
from spotheights.closure import filled
from spotheights.errors import BadIndex, NotClosed, WrongCount
from spotheights.fitting import fit
from spotheights.lots import Lot
from spotheights.polynomials import Polynomial
from spotheights.ratios import Ratio
from spotheights.verdicts import Spoiled
from tests.helpers import Checks, Drawn, closed_lots, lot, many_lots, open_lots, poly, ratios, table, texts
from tests.helpers import times_variable, weighted


def product_of_tables(first, second):
    return [[weighted(row, [other[k] for other in second]) for k in range(len(second))] for row in first]


class VariableTables(unittest.TestCase):

    def test_by_hand(self):
        self.assertEqual(variable_table(lot("at 2", "at 2 ask x", dimension=1), 0), table("2 0", "1 2"))
        self.assertEqual(variable_table(lot("at 3 5", "at -1/2 7"), 0), table("3 0", "0 -1/2"))
        self.assertEqual(variable_table(lot("at 3 5", "at -1/2 7"), 1), table("5 0", "0 7"))
        self.assertEqual(variable_table(lot("at 3 ask 4", "at 3 ask 6 x", dimension=1), 0), table("3 0", "3/2 3"))
        found = filled(lot("at 1 0 ask x y"))
        self.assertEqual(variable_table(found, 0), table("1 1 0 0", "0 1 0 0", "0 0 1 1", "0 0 0 1"))
        self.assertEqual(variable_table(found, 1), table("0 0 1 0", "0 0 0 1", "0 0 0 0", "0 0 0 0"))

    def test_answers_of_variable_times_polynomial(self):
        drawn = Drawn(257)
        for found in closed_lots():
            for variable in range(found.dimension):
                rows = variable_table(found, variable)
                self.assertEqual([len(row) for row in rows], [len(found)] * len(found))
                for _ in range(2):
                    polynomial = drawn.polynomial(found.dimension, 6)
                    answers = found.ask(polynomial)
                    wanted = found.ask(times_variable(polynomial, variable))
                    self.assertEqual([weighted(row, answers) for row in rows], wanted)

    def test_the_only_matrix(self):
        # The answers of the cardinal polynomials are the unit lists, so they tell each entry.
        for found in closed_lots()[::2]:
            for variable in range(found.dimension):
                for k in range(len(found)):
                    cardinal = fit(found, [Ratio(int(i == k)) for i in range(len(found))])
                    column = [row[k] for row in variable_table(found, variable)]
                    self.assertEqual(column, found.ask(times_variable(cardinal, variable)))

    def test_tables_commute(self):
        for found in closed_lots():
            tables = [variable_table(found, variable) for variable in range(found.dimension)]
            for first in tables:
                for second in tables:
                    self.assertEqual(product_of_tables(first, second), product_of_tables(second, first))

    def test_the_empty_lot(self):
        for dimension in [1, 2, 3]:
            self.assertEqual(variable_table(Lot.empty(dimension), dimension - 1), [])
            self.assertEqual(multiply_answers(Lot.empty(dimension), [], []), [])
            self.assertEqual(unit_answers(Lot.empty(dimension)), [])

    def test_indexes(self):
        for found in closed_lots():
            for variable in [-1, found.dimension, 10 ** 20]:
                with self.assertRaises(BadIndex):
                    variable_table(found, variable)


class Products(unittest.TestCase):

    def test_example(self):
        found = lot("at 2", "at 2 ask x", dimension=1)
        self.assertEqual(texts(multiply_answers(found, ratios("3 1"), ratios("5 -1"))), ["15", "2"])

    def test_by_hand(self):
        for questions, first, second, wanted in [
            (["at 3 4", "at 5 6"], "2 3", "1/2 7", "1 21"), (["at 3 4 ask 2"], "6", "10", "30"),
            (["at 3 4 ask -1/3", "at 0 0"], "1 2", "4 5", "-12 10"),
            (["at 0 0", "at 0 0 ask x", "at 0 0 ask x^2"], "1 2 3", "5 7 11", "5 17 54"),
        ]:
            with self.subTest(str(questions)):
                found = lot(*questions)
                self.assertEqual(multiply_answers(found, ratios(first), ratios(second)), ratios(wanted))

    def test_answers_of_products(self):
        drawn = Drawn(259)
        for found in closed_lots():
            first = drawn.polynomial(found.dimension, 8)
            second = drawn.polynomial(found.dimension, 8)
            answers = multiply_answers(found, tuple(found.ask(first)), found.ask(second))
            self.assertIsInstance(answers, list)
            self.assertEqual(answers, found.ask(first * second))
            self.assertEqual(multiply_answers(found, found.ask(second), found.ask(first)), answers)

    def test_units(self):
        drawn = Drawn(261)
        for found in many_lots():
            self.assertEqual(unit_answers(found), found.ask(poly("1", found.dimension)))
        for found in closed_lots():
            answers = drawn.row(len(found))
            self.assertEqual(multiply_answers(found, unit_answers(found), answers), answers)
            self.assertEqual(multiply_answers(found, answers, unit_answers(found)), answers)
        self.assertEqual(unit_answers(lot("at 3 4 ask -1/3", "at 0 0 ask 2 + x", "at 0 0 ask x")), ratios("-1/3 2 0"))

    def test_products_by_tables(self):
        drawn = Drawn(263)
        for found in closed_lots():
            answers = drawn.row(len(found))
            for variable in range(found.dimension):
                wanted = [weighted(row, answers) for row in variable_table(found, variable)]
                coordinate = found.ask(Polynomial.coordinate(found.dimension, variable))
                self.assertEqual(multiply_answers(found, coordinate, answers), wanted)

    def test_counts(self):
        found = lot("at 2", "at 2 ask x", dimension=1)
        for first, second in [("1", "1 2"), ("1 2 3", "1 2"), ("1 2", "1"), ("1 2", "1 2 3"), ("", ""), ("1 2", "")]:
            with self.assertRaises(WrongCount):
                multiply_answers(found, ratios(first), ratios(second))
        with self.assertRaises(WrongCount):
            multiply_answers(Lot.empty(2), [], ratios("1"))


class Errors(Checks):

    def test_lots_that_are_not_closed(self):
        for found in open_lots():
            right = ratios("1 2 3 4 5 6 7 8")[:len(found)]
            for call in [lambda: variable_table(found, 0), lambda: variable_table(found, -1),
                         lambda: variable_table(found, 3), lambda: multiply_answers(found, right, right),
                         lambda: multiply_answers(found, [], right), lambda: multiply_answers(found, right, [])]:
                with self.assertRaises(NotClosed) as caught:
                    call()
                certificate = caught.exception.certificate
                self.assertIsInstance(certificate, Spoiled)
                self.assertEqual(certificate.lot, found)
                self.assert_holds(certificate)

    def test_lists_are_new(self):
        found = lot("at 2", "at 2 ask x", dimension=1)
        rows = variable_table(found, 0)
        rows[0].clear()
        rows.clear()
        unit_answers(found).clear()
        first = ratios("3 1")
        multiply_answers(found, first, first).clear()
        self.assertEqual(first, ratios("3 1"))
        self.assertEqual(variable_table(found, 0), table("2 0", "1 2"))
        self.assertEqual(unit_answers(found), ratios("1 0"))


if __name__ == "__main__":
    unittest.main()

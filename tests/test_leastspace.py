import unittest

from spotheights.errors import Singular
from spotheights.leastspace import least_rows, least_space, ranks
from spotheights.lots import Lot
from spotheights.monomials import monomial_factorial, monomials_of_degree, monomials_up_to
from spotheights.polynomials import Polynomial
from spotheights.questions import Question
from spotheights.ratios import Ratio
from spotheights.spaces import Space
from spotheights.spacetools import changed_space, is_graded
from tests.helpers import Drawn, fraction, independent, lot, many_lots, mixed, ratios, table, texts, weighted


def rank_up_to(found, degree):
    """The rank of the answers on the polynomials of at most this degree, by Python's own fractions."""
    return independent([[fraction(number) for number in row]
                        for row in found.table(list(monomials_up_to(found.dimension, degree)))])


def series_of(found, weights, degree):
    """The weighted sum of the series up to a degree."""
    return mixed([question.series(degree) for question in found], weights, found.dimension)


class LeastSpaces(unittest.TestCase):

    def test_example(self):
        spots = [(Ratio(0), Ratio(0)), (Ratio(1), Ratio(1)), (Ratio(2), Ratio(2))]
        self.assertEqual(texts(least_space(Lot.heights(2, spots))), ["1", "x + y", "x^2 + 2 x y + y^2"])

    def test_by_hand(self):
        for questions, basis, dimension in [
            ([], [], 2), (["at 3 -5"], ["1"], 2), (["at 3 -5 ask x"], ["x"], 2), (["at 0 0 ask x y"], ["x y"], 2),
            (["at 7 8 ask 1 - x"], ["1"], 2), (["at 0 0 ask x + y^2"], ["x"], 2),
            (["at 0 0", "at 1 0"], ["1", "x"], 2), (["at 0 0", "at 1 2"], ["1", "1/2 x + y"], 2),
            (["at 0 0", "at 1 0", "at 0 1", "at 1 1"], ["1", "x", "y", "x y"], 2),
            (["at 1 0", "at -1 0", "at 0 1", "at 0 -1"], ["1", "x", "y", "-x^2 + y^2"], 2),
            (["at 0", "at 5", "at -1/3"], ["1", "x", "x^2"], 1), (["at 0 ask x", "at 1 ask x"], ["x", "x^2"], 1),
            (["at 0 ask x^4", "at 0"], ["1", "x^4"], 1), (["at 0 ask x^4", "at 1"], ["1", "x^4"], 1),
            (["at 0 0 0", "at 1 2 3"], ["1", "1/3 x + 2/3 y + z"], 3),
            (["at 0 0 0 ask x y z", "at 0 0 0 ask x"], ["x", "x y z"], 3),
        ]:
            with self.subTest(str(questions)):
                self.assertEqual(texts(least_space(lot(*questions, dimension=dimension))), basis)

    def test_dimension_degrees_and_counts(self):
        for found in many_lots():
            space = least_space(found)
            self.assertIsInstance(space, Space)
            self.assertEqual((space.dimension, len(space)), (found.dimension, len(found)))
            self.assertIs(is_graded(space), True)
            self.assertLessEqual(space.degree, max(found.width - 1, -1))
            counts = space.counts()
            for degree in range(len(counts)):
                self.assertEqual(sum(counts[:degree + 1]), rank_up_to(found, degree))

    def test_lowest_parts_belong_to_it(self):
        drawn = Drawn(43)
        for found in many_lots():
            space = least_space(found)
            parts = []
            for _ in range(3 * len(found)):
                weights = [Ratio(drawn.integer(-3, 3)) for _ in found]
                part = series_of(found, weights, 7).lowest_part()
                self.assertIn(part, space)
                parts.append(part)
            parts += [series_of(found, row, 7).lowest_part() for row in least_rows(found)]
            self.assertEqual(Space(found.dimension, parts[-12:]), space)

    def test_fits_are_unique(self):
        for found in many_lots():
            rows = [[fraction(number) for number in found.ask(member)] for member in least_space(found)]
            self.assertEqual(independent(rows), len(found))

    def test_the_order_of_the_questions_does_not_matter(self):
        for found in many_lots():
            indexes = list(range(len(found)))
            for order in [indexes[::-1], indexes[1:] + indexes[:1], indexes[::2] + indexes[1::2]]:
                self.assertEqual(least_space(found.part(order)), least_space(found))

    def test_operators_with_the_same_span(self):
        for found in many_lots():
            questions = []
            for at, question in enumerate(found):
                fellows = [other.operator for other in list(found)[:at] if other.spot == question.spot]
                operator = mixed([question.operator, *fellows], [Ratio(-5, 3), *[Ratio(2)] * len(fellows)],
                                 found.dimension)
                questions.append(Question(question.spot, operator))
            self.assertEqual(least_space(Lot(found.dimension, questions)), least_space(found))

    def test_parts(self):
        for found in many_lots():
            space = least_space(found)
            for many in range(len(found)):
                for member in least_space(found.part(list(range(many)))):
                    self.assertIn(member, space)

    def test_shifted_lots(self):
        for found in many_lots():
            if all([abs(number.top) < 900 and number.bottom < 9 for question in found for number in question.spot]):
                by = ratios("7/2 -3 1/5")[:found.dimension]
                self.assertEqual(least_space(found.shifted(by)), least_space(found))

    def test_changed_lots(self):
        matrices = [[table("-2/3")], [table("1 2", "3/2 1"), table("0 1", "1 0")], [table("1 1 0", "0 2 0", "1 0 1/3")]]
        seen = 0
        for found in many_lots():
            for matrix in matrices[found.dimension - 1]:
                if all([abs(number.top) < 90 and number.bottom < 9 for question in found for number in question.spot]):
                    space = changed_space(least_space(found), matrix)
                    self.assertEqual(least_space(found.changed(matrix)), space)
                    seen += 1
        self.assertGreater(seen, 40)
        with self.assertRaises(Singular):
            lot("at 0 0").changed(table("1 1", "1 1"))

    def test_products(self):
        lots = [found for found in many_lots() if found.dimension < 3]
        seen = 0
        for first in lots:
            for second in lots:
                if first.dimension + second.dimension < 4 and first.width * second.width < 9:
                    self.assertEqual(least_space(first * second), least_space(first) * least_space(second))
                    seen += 1
        self.assertGreater(seen, 100)

    def test_in_one_variable_heights_make_all_powers(self):
        for many in range(9):
            found = Lot.heights(1, [[Ratio(k * k, k + 3)] for k in range(many)])
            self.assertEqual(texts(least_space(found)), ["1", "x", *[f"x^{k}" for k in range(2, 8)]][:many])

    def test_wide_lots_with_long_coordinates(self):
        drawn = Drawn(47)
        for dimension in [1, 2, 3]:
            spots = [[Ratio(drawn.integer(-999, 999), drawn.integer(900, 999)) for _ in range(dimension)]
                     for _ in range(8)]
            found = Lot.heights(dimension, spots)
            self.assertEqual(least_space(found).counts(), [[1] * 8, [1, 2, 3, 2], [1, 3, 4]][dimension - 1])
            direction = [Ratio(drawn.integer(100, 120), 997 - k) for k in range(dimension)]
            found = Lot.heights(dimension, [[number * k for number in direction] for k in range(8)])
            self.assertEqual(least_space(found).counts(), [1] * 8)
            rows = least_rows(found)
            self.assertEqual(series_of(found, rows[7], 7), list(least_space(found))[7])


class Rows(unittest.TestCase):

    def test_rows_have_the_members_as_lowest_parts(self):
        for found in many_lots():
            rows, members = least_rows(found), list(least_space(found))
            self.assertEqual(len(rows), len(found))
            for row, member in zip(rows, members):
                self.assertEqual(len(row), len(found))
                self.assertEqual(series_of(found, row, member.degree), member)

    def test_what_that_means_for_the_answers(self):
        for found in many_lots():
            for row, member in zip(least_rows(found), least_space(found)):
                for degree in range(member.degree + 1):
                    for place in monomials_of_degree(found.dimension, degree):
                        answer = weighted(found.ask(Polynomial.monomial(place)), row)
                        self.assertIsInstance(answer, Ratio)
                        self.assertEqual(answer, member.coefficient(place) * monomial_factorial(place))

    def test_rows_are_new_lists(self):
        found = lot("at 0 0", "at 1 1")
        rows = least_rows(found)
        self.assertEqual(rows, [[1, 0], [-1, 1]])
        rows[0].clear()
        rows.clear()
        self.assertEqual(least_rows(found), [[1, 0], [-1, 1]])
        self.assertEqual(texts(found), ["at 0 0", "at 1 1"])

    def test_the_empty_lot(self):
        for dimension in [1, 2, 3]:
            found = Lot.empty(dimension)
            self.assertEqual((least_rows(found), ranks(found), least_space(found)), ([], [], Space(dimension)))


class Ranks(unittest.TestCase):

    def test_by_hand(self):
        for questions, wanted in [([], []), (["at 3 -5"], [1]), (["at 0 0 ask x y"], [0, 0, 1]),
                                  (["at 0 0", "at 1 1", "at 2 2"], [1, 2, 3]), (["at 0 0", "at 1 0", "at 0 1"], [1, 3]),
                                  (["at 0 0", "at 0 0 ask x y"], [1, 1, 2])]:
            self.assertEqual(ranks(lot(*questions)), wanted)
        self.assertEqual(ranks(lot("at 0 ask x^4", dimension=1)), [0, 0, 0, 0, 1])

    def test_by_the_definition(self):
        for found in many_lots():
            wanted = []
            while len(found) and (not wanted or wanted[-1] < len(found)):
                wanted.append(rank_up_to(found, len(wanted)))
            self.assertEqual(ranks(found), wanted)

    def test_new_lists(self):
        found = lot("at 0 0", "at 1 1")
        ranks(found).clear()
        self.assertEqual(ranks(found), [1, 2])


if __name__ == "__main__":
    unittest.main()

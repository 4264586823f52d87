import unittest

from spotheights.errors import WrongCount, WrongDimension
from spotheights.monomials import monomials_up_to
from spotheights.polynomials import Polynomial
from spotheights.ratios import Ratio
from spotheights.substitution import changed, embedded, shifted
from tests.helpers import Drawn, poly, ratios, table, texts


class Changes(unittest.TestCase):

    def test_a_variable_becomes_the_sum_over_its_column(self):
        matrix = table("1 2", "3 4")
        self.assertEqual(str(changed(poly("x"), matrix)), "x + 3 y")
        self.assertEqual(str(changed(poly("y"), matrix)), "2 x + 4 y")
        self.assertEqual(str(changed(poly("1 + x y"), matrix)), "1 + 2 x^2 + 10 x y + 12 y^2")

    def test_it_is_the_polynomial_of_the_transposed_matrix_times_x(self):
        drawn = Drawn(13)
        for dimension in [1, 2, 3]:
            for _ in range(12):
                found, matrix = drawn.polynomial(dimension, 5), drawn.rows(dimension, dimension)
                spot = drawn.row(dimension)
                moved = [sum([matrix[i][k] * spot[i] for i in range(dimension)]) for k in range(dimension)]
                self.assertEqual(changed(found, matrix)(spot), found(moved))

    def test_every_monomial_up_to_degree_8(self):
        found = Polynomial(3, [(place, Ratio(1 + k, 7)) for k, place in enumerate(monomials_up_to(3, 8))])
        matrix = table("1 -1/2 0", "0 3 1", "2 0 -1")
        spot = ratios("1/2 -1 3")
        moved = [sum([matrix[i][k] * spot[i] for i in range(3)]) for k in range(3)]
        self.assertEqual(changed(found, matrix)(spot), found(moved))

    def test_singular_matrices(self):
        self.assertEqual(str(changed(poly("1 + x + y^2"), table("0 0", "0 0"))), "1")
        self.assertEqual(str(changed(poly("1 + x + y^2"), table("0 1", "0 0"))), "1 + x^2")
        self.assertEqual(changed(poly("x - y"), table("1 1", "1 1")), poly("0"))

    def test_zero_and_degree_16(self):
        self.assertEqual(changed(poly("0"), table("1 2", "3 4")), poly("0"))
        self.assertEqual(str(changed(poly("x^16", 1), table("2"))), "65536 x^16")
        self.assertEqual(changed(poly("x^16 - y^16"), table("0 1", "1 0")), poly("-x^16 + y^16"))

    def test_wrong_counts(self):
        for matrix in [[], table("1 0"), table("1 0", "0 1", "0 0"), table("1", "0"), table("1 0", "0 1 0"),
                       table("1 0", "0"), table("1 0 0", "0 1 0"), table("1 0 0", "0 1 0", "0 0 1")]:
            for text in ["0", "1", "x y"]:
                with self.assertRaises(WrongCount):
                    changed(poly(text), matrix)

    def test_tuples_and_unchanged_arguments(self):
        found, matrix = poly("x + y^2"), table("1 2", "3 4")
        self.assertEqual(changed(found, tuple([tuple(row) for row in matrix])), changed(found, matrix))
        self.assertEqual([texts(row) for row in matrix], [["1", "2"], ["3", "4"]])
        self.assertEqual(str(found), "x + y^2")


class Shifts(unittest.TestCase):

    def test_by_hand(self):
        self.assertEqual(str(shifted(poly("x^2", 1), ratios("3"))), "9 - 6 x + x^2")
        self.assertEqual(str(shifted(poly("x y"), ratios("0 -1/2"))), "1/2 x + x y")
        self.assertEqual(shifted(poly("0"), ratios("5 5")), poly("0"))
        self.assertEqual(shifted(poly("7", 3), ratios("5 5 5")), poly("7", 3))

    def test_values_move_along(self):
        drawn = Drawn(17)
        for dimension in [1, 2, 3]:
            for _ in range(12):
                found, by, spot = drawn.polynomial(dimension, 6), drawn.row(dimension), drawn.row(dimension)
                moved = [t + b for t, b in zip(spot, by)]
                self.assertEqual(shifted(found, by)(moved), found(spot))

    def test_tuples_and_unchanged_arguments(self):
        found, by = poly("x y"), ratios("1 2")
        self.assertEqual(shifted(found, tuple(by)), shifted(found, by))
        self.assertEqual((str(found), texts(by)), ("x y", ["1", "2"]))

    def test_wrong_lengths(self):
        for by in [[], ratios("1"), ratios("1 2 3")]:
            for text in ["0", "x"]:
                with self.assertRaises(WrongDimension):
                    shifted(poly(text), by)


class Embeddings(unittest.TestCase):

    def test_by_hand(self):
        self.assertEqual(embedded(poly("1 - x", 1), 3, 0), poly("1 - x", 3))
        self.assertEqual(embedded(poly("1 - x", 1), 3, 1), poly("1 - y", 3))
        self.assertEqual(embedded(poly("1 - x", 1), 3, 2), poly("1 - z", 3))
        self.assertEqual(embedded(poly("x + x y^2"), 3, 0), poly("x + x y^2", 3))
        self.assertEqual(embedded(poly("x + x y^2"), 3, 1), poly("y + y z^2", 3))
        self.assertEqual(embedded(poly("x^16"), 2, 0), poly("x^16"))
        self.assertEqual(embedded(poly("0", 1), 2, 1), poly("0", 2))

    def test_what_does_not_fit(self):
        for before, dimension, offset in [(1, 1, 1), (1, 3, 3), (2, 3, 2), (2, 1, 0), (3, 2, 0), (3, 3, 1), (2, 2, -1),
                                          (1, 3, -1), (1, 4, 0), (1, 0, 0), (1, -1, 0), (3, 4, 1), (3, 4, 0),
                                          (1, 10 ** 20, 0), (1, 3, 10 ** 20)]:
            for text in ["0", "x"]:
                with self.subTest(str((before, dimension, offset))), self.assertRaises(WrongDimension):
                    embedded(poly(text, before), dimension, offset)


if __name__ == "__main__":
    unittest.main()

import unittest

from spotheights.calculus import derivative
from spotheights.errors import Singular, TooLarge, WrongCount, WrongDimension
from spotheights.fitting import fit
from spotheights.leastspace import least_space
from spotheights.lots import Lot
from spotheights.matrices import determinant
from spotheights.motions import follows_change, follows_shifts, is_similarity, stray_change, stray_lot, stray_member
from spotheights.ratios import Ratio
from spotheights.spacetools import is_closed
from spotheights.substitution import changed, shifted
from tests.helpers import Checks, Drawn, closed_lots, lot, many_lots, poly, ratios, table, texts

SIMILARITIES = [
    table("1"), table("-2/3"), table("0 1", "1 0"), table("1 1", "-1 1"), table("3 4", "-4 3"), table("3/5 4/5", "4/5 -3/5"),
    table("-7 0", "0 7"), table("1 0 0", "0 1 0", "0 0 1"), table("0 2 0", "0 0 -2", "2 0 0"),
    table("1 2 2", "2 1 -2", "2 -2 1"),
]
OTHERS = [
    table("1 1", "0 1"), table("1 0", "0 2"), table("1 0", "0 -2"), table("0 3", "1 0"), table("1 2", "3 4"),
    table("2 0 0", "0 2 0", "0 0 3"), table("1 1 0", "0 1 0", "0 0 1"), table("1 0 1", "0 1 0", "0 0 1"),
    table("1 0 0", "0 1 1", "0 0 1"), table("999/998 0", "0 998/999"), table("1 0 0", "0 0 1", "0 2 0"),
]


def square_of(matrix):
    """The transposed matrix times the matrix."""
    size = range(len(matrix))
    return [[sum([matrix[i][k] * matrix[i][l] for i in size], Ratio(0)) for l in size] for k in size]


def matrices(dimension):
    return [matrix for matrix in SIMILARITIES + OTHERS if len(matrix) == dimension]


def answers_follow(found, matrix):
    """Whether the fits of all unit lists of answers follow the matrix, by the fits themselves."""
    moved = found.changed(matrix)
    turned = [[row[k] for row in matrix] for k in range(len(matrix))]
    for k in range(len(found)):
        answers = [Ratio(int(i == k)) for i in range(len(found))]
        # r(A x) is what `changed` makes of r with the transposed matrix.
        if changed(fit(moved, answers), turned) != fit(found, answers):
            return False
    return True


def moved_lots():
    """Lots with coordinates so small that they can be moved a bit."""
    return [found for found in many_lots() + closed_lots()
            if all([abs(number.top) < 20 and number.bottom < 8 for question in found for number in question.spot])]


class Shifts(unittest.TestCase):

    def test_by_hand(self):
        for questions, wanted, dimension in [
            ([], None, 2), (["at 1 2"], None, 2), (["at 0 ask x"], ("x", 0), 1), (["at 0 ask x", "at 3"], None, 1),
            (["at 0 0 ask y"], ("y", 1), 2), (["at 1 0 ask x y"], ("x y", 0), 2), (["at 0 0 ask x y", "at 5 5"], ("x y", 0), 2),
            (["at 0 0", "at 0 0 ask y", "at 0 0 ask x y"], ("x y", 1), 2),
            (["at 0 0", "at 0 0 ask x", "at 0 0 ask x^2", "at 0 0 ask x y"], ("x y", 0), 2),
            (["at 0 0 0", "at 0 0 0 ask x", "at 0 0 0 ask x z"], ("x z", 0), 3),
            (["at 0 0 0", "at 0 0 0 ask z", "at 0 0 0 ask x z"], ("x z", 2), 3),
        ]:
            with self.subTest(str(questions)):
                found = stray_member(lot(*questions, dimension=dimension))
                if wanted is None:
                    self.assertIsNone(found)
                else:
                    self.assertIsInstance(found, tuple)
                    self.assertEqual((str(found[0]), found[1]), wanted)

    def test_every_lot(self):
        seen = 0
        for found in many_lots() + closed_lots():
            space = least_space(found)
            self.assertIs(follows_shifts(found), is_closed(space))
            strays = [(member, k) for member in space for k in range(found.dimension)
                      if derivative(member, k) not in space]
            self.assertEqual(stray_member(found), strays[0] if strays else None)
            seen += len(strays) > 0
        self.assertGreater(seen, 9)

    def test_closed_lots_follow(self):
        for found in closed_lots():
            self.assertIs(follows_shifts(found), True)
            self.assertIsNone(stray_member(found))

    def test_fits_follow_shifts(self):
        drawn = Drawn(265)
        for found in moved_lots():
            if follows_shifts(found):
                answers = drawn.row(len(found))
                by = ratios("3 -7/2 5")[:found.dimension]
                self.assertEqual(fit(found.shifted(by), answers), shifted(fit(found, answers), by))

    def test_fits_that_do_not_follow(self):
        seen = 0
        for found in moved_lots():
            if not follows_shifts(found):
                member, variable = stray_member(found)
                answers = found.ask(member)
                followed = []
                for step in range(1, member.degree + 1):
                    by = [Ratio(step * int(k == variable)) for k in range(found.dimension)]
                    followed.append(fit(found.shifted(by), answers) == shifted(member, by))
                self.assertIn(False, followed)
                seen += 1
        self.assertGreater(seen, 9)


class Changes(unittest.TestCase):

    def test_by_hand(self):
        pair = lot("at 0 0", "at 1 0")
        self.assertIs(follows_change(pair, table("1 0", "0 2")), True)
        self.assertIs(follows_change(pair, table("1 1", "0 1")), False)
        self.assertEqual(str(stray_change(pair, table("1 1", "0 1"))), "x")
        self.assertIsNone(stray_change(pair, table("3 0", "0 -1/7")))
        found = lot("at 0 0", "at 1 0", "at 0 1", "at 1 1")
        self.assertIsNone(stray_change(found, table("1 0", "0 2")))
        self.assertEqual(str(stray_change(found, table("1 1", "0 1"))), "x y")
        self.assertIs(follows_change(Lot.empty(2), table("1 1", "0 1")), True)
        self.assertIs(follows_change(lot("at 7 8"), table("1 1", "0 1")), True)
        self.assertIs(follows_change(lot("at 7", "at 9 ask x", dimension=1), table("5")), True)

    def test_every_lot(self):
        seen = {True: 0, False: 0}
        for found in many_lots():
            space = least_space(found)
            for matrix in matrices(found.dimension):
                strays = [member for member in space if changed(member, square_of(matrix)) not in space]
                self.assertEqual(stray_change(found, matrix), strays[0] if strays else None)
                self.assertIs(follows_change(found, matrix), not strays)
                seen[not strays] += 1
        self.assertGreater(min(seen.values()), 50)

    def test_fits(self):
        seen = {True: 0, False: 0}
        for found in moved_lots()[::2]:
            for matrix in matrices(found.dimension):
                if all([number.bottom < 5 for row in matrix for number in row]):
                    follows = follows_change(found, matrix)
                    self.assertIs(answers_follow(found, matrix), follows)
                    seen[follows] += 1
        self.assertGreater(min(seen.values()), 20)

    def test_the_fits_of_every_lot_follow_every_similarity(self):
        for found in many_lots():
            for matrix in SIMILARITIES:
                if len(matrix) == found.dimension:
                    self.assertIs(follows_change(found, matrix), True)
                    self.assertIsNone(stray_change(found, matrix))

    def test_spots_that_would_be_too_large(self):
        found = lot("at 999 -999", "at 0 0")
        matrix = table("999 998", "-998 999")
        with self.assertRaises(TooLarge):
            found.changed(matrix)
        self.assertIs(follows_change(found, matrix), True)
        self.assertIs(follows_change(found, table("999 0", "0 998")), False)
        self.assertEqual(str(stray_change(found, table("999 0", "0 998"))), "-x + y")


class Similarities(unittest.TestCase):

    def test_is_similarity(self):
        for matrix in SIMILARITIES:
            self.assertIs(is_similarity(matrix), True)
            self.assertIs(is_similarity(tuple([tuple(row) for row in matrix])), True)
        for matrix in OTHERS:
            self.assertIs(is_similarity(matrix), False)

    def test_stray_lots(self):
        for matrix in SIMILARITIES:
            self.assertIsNone(stray_lot(matrix))
        for matrix in OTHERS:
            found = stray_lot(matrix)
            self.assertIsInstance(found, Lot)
            self.assertEqual((len(found), found.dimension, found.plain), (2, len(matrix), True))
            for question in found:
                self.assertTrue(all([number == 0 or number == 1 for number in question.spot]))
            self.assertIs(follows_change(found, matrix), False)

    def test_drawn_matrices(self):
        drawn = Drawn(267)
        for dimension in [1, 2, 3]:
            for _ in range(40):
                matrix = [[Ratio(drawn.integer(-1, 1)) for _ in range(dimension)] for _ in range(dimension)]
                if determinant(matrix):
                    square = square_of(matrix)
                    wanted = all([square[i][k] == (square[0][0] if i == k else 0)
                                  for i in range(dimension) for k in range(dimension)])
                    self.assertIs(is_similarity(matrix), wanted)
                    found = stray_lot(matrix)
                    self.assertIs(found is None, wanted)
                    if found is not None:
                        self.assertIs(answers_follow(found, matrix), False)

    def test_fits_of_stray_lots(self):
        for matrix in OTHERS:
            self.assertIs(answers_follow(stray_lot(matrix), matrix), False)


class Errors(Checks):

    def test_matrices_for_lots(self):
        for call in [follows_change, stray_change]:
            for found in [Lot.empty(2), lot("at 1 0"), lot("at 0 0", "at 1 0")]:
                for error, matrix in [
                    (WrongCount, []), (WrongCount, table("1")), (WrongCount, table("1 0 0", "0 1 0", "0 0 1")),
                    (WrongCount, table("1 0", "1")), (WrongCount, table("1 0 0", "0 1 0")), (WrongCount, table("1 0")),
                    (WrongCount, table("0 0", "0")), (Singular, table("0 0", "0 0")), (Singular, table("1 2", "2 4")),
                    (Singular, table("1/3 1/2", "2/3 1")),
                ]:
                    with self.subTest(str(matrix)), self.assertRaises(error):
                        call(found, matrix)

    def test_matrices_alone(self):
        for call in [is_similarity, stray_lot]:
            for error, matrix in [
                (WrongDimension, []), (WrongDimension, [ratios("1 0 0 0")] * 4), (WrongDimension, table("1", "1", "1", "1")),
                (WrongCount, table("1 2")), (WrongCount, table("1 0", "1")), (WrongCount, [[]]),
                (WrongCount, table("1 0 0", "0 1 0")), (WrongCount, table("1 0 0", "0 1 0", "0 1")),
                (Singular, table("0")), (Singular, table("1 2", "2 4")), (Singular, table("1 2 3", "4 5 6", "7 8 9")),
                (Singular, table("0 0", "0 0")),
            ]:
                with self.subTest(str(matrix)), self.assertRaises(error):
                    call(matrix)

    def test_what_was_passed_is_unchanged(self):
        matrix = table("1 1", "0 1")
        found = lot("at 0 0", "at 1 0")
        for call in [lambda: follows_change(found, matrix), lambda: stray_change(found, matrix),
                     lambda: is_similarity(matrix), lambda: stray_lot(matrix)]:
            call()
        self.assertEqual(matrix, table("1 1", "0 1"))
        self.assertEqual(texts(found), ["at 0 0", "at 1 0"])
        self.assertEqual(least_space(found).coordinates(poly("x")), ratios("0 1"))


if __name__ == "__main__":
    unittest.main()

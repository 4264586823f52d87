import unittest

from spotheights.calculus import apply_operator, derivative
from spotheights.errors import NotClosed, SpotError, WrongCount
from spotheights.leastspace import least_space
from spotheights.monomials import monomials_up_to
from spotheights.polynomials import Polynomial
from spotheights.spaces import Space
from spotheights.spacetools import changed_space, derived_space, generators, is_closed, is_graded
from spotheights.substitution import changed
from tests.helpers import Drawn, many_lots, space, table, texts


def derivatives_of(polynomials, dimension):
    """The polynomials and all their derivatives of every order."""
    return [apply_operator(Polynomial.monomial(rule), polynomial)
            for polynomial in polynomials for rule in monomials_up_to(dimension, max(polynomial.degree, 0))]


def closed_spaces():
    drawn = Drawn(53)
    for dimension in [1, 2, 3]:
        yield Space(dimension)
        for degree in [0, 1, 2, 3]:
            for many in [1, 2, 3]:
                polynomials = [drawn.polynomial(dimension, degree, 4, 5) for _ in range(many)]
                yield Space(dimension, derivatives_of(polynomials, dimension))


class Graded(unittest.TestCase):

    def test_by_hand(self):
        for polynomials, wanted in [
            ([], True), (["0"], True), (["1 + x", "1 - x"], True), (["x^2 - y^2", "x"], True), (["1 + x"], False),
            (["1", "x + x^2"], False), (["1 + x + x^2", "x", "1"], True), (["1 + x + x^2", "x"], False),
        ]:
            self.assertIs(is_graded(space(*polynomials)), wanted)

    def test_by_the_definition(self):
        drawn = Drawn(59)
        outcomes = []
        for dimension in [1, 2, 3]:
            for _ in range(30):
                polynomials = [drawn.polynomial(dimension, 2, 2, 3) for _ in range(3)]
                found = Space(dimension, polynomials)
                wanted = all([polynomial.part(k) in found for polynomial in polynomials for k in range(3)])
                self.assertIs(is_graded(found), wanted)
                outcomes.append(wanted)
        self.assertTrue(10 < outcomes.count(True) < 80)


class Closed(unittest.TestCase):

    def test_by_hand(self):
        for polynomials, wanted in [
            ([], True), (["1"], True), (["x"], False), (["1 + x", "1"], True), (["1", "x", "y"], True),
            (["1", "x y"], False), (["1", "x", "y", "x y"], True), (["1", "x", "x y"], False), (["x^2", "x"], False),
            (["1", "2 x + y", "4 x^2 + 4 x y + y^2"], True),
        ]:
            self.assertIs(is_closed(space(*polynomials)), wanted)

    def test_all_derivatives_make_a_closed_space(self):
        for found in closed_spaces():
            self.assertIs(is_closed(found), True)
            members = list(found)[1:]
            rest = Space(found.dimension, members)
            wanted = all([derivative(p, k) in rest for p in members for k in range(found.dimension)])
            self.assertIs(is_closed(rest), wanted)


class Derived(unittest.TestCase):

    def test_by_hand(self):
        for polynomials, basis in [([], []), (["7"], []), (["x^2 y"], ["x^2", "x y"]), (["x^2", "x"], ["1", "x"]),
                                   (["x y + y^2"], ["y", "x + 2 y"]), (["1 + x + x^3"], ["1/3 + x^2"])]:
            found = derived_space(space(*polynomials))
            self.assertEqual(found, space(*basis))
            self.assertEqual(found.dimension, 2)

    def test_derivatives_of_combinations(self):
        drawn = Drawn(61)
        for dimension in [1, 2, 3]:
            polynomials = [drawn.polynomial(dimension, 4) for _ in range(5)]
            found = derived_space(Space(dimension, polynomials))
            self.assertEqual(found, Space(dimension, [derivative(p, k) for p in polynomials for k in range(dimension)]))


class Changed(unittest.TestCase):

    def test_by_hand(self):
        matrix = table("1 2", "3 4")
        self.assertEqual(texts(changed_space(space("x", "1 + x y"), matrix)),
                         ["1/3 x + y", "1/12 + 1/6 x^2 + 5/6 x y + y^2"])
        self.assertEqual(changed_space(space("x", "y"), table("1 0", "0 0")), space("x"))
        self.assertEqual(changed_space(space("1", "x", "y"), table("0 0", "0 0")), space("1"))

    def test_by_the_definition(self):
        drawn = Drawn(67)
        for dimension in [1, 2, 3]:
            for degree in [1, 3, 8]:
                polynomials = [drawn.polynomial(dimension, degree) for _ in range(4)]
                matrix = drawn.rows(dimension, dimension, 9)
                self.assertEqual(changed_space(Space(dimension, polynomials), matrix),
                                 Space(dimension, [changed(polynomial, matrix) for polynomial in polynomials]))

    def test_wrong_counts(self):
        for found in [Space(2), space("1"), space("x", "y")]:
            for matrix in [[], table("1 0"), table("1 0", "0 1", "0 0"), table("1", "0"), table("1 0", "0 1 0"),
                           table("1 0 0", "0 1 0", "0 0 1"), table("1")]:
                with self.assertRaises(WrongCount):
                    changed_space(found, matrix)
        self.assertEqual(changed_space(Space(3), table("1 0 0", "0 1 0", "0 0 1")), Space(3))

    def test_tuples_and_unchanged_arguments(self):
        matrix, found = table("1 2", "3 4"), space("x + y^2")
        self.assertEqual(changed_space(found, tuple([tuple(row) for row in matrix])), changed_space(found, matrix))
        self.assertEqual(([texts(row) for row in matrix], texts(found)), ([["1", "2"], ["3", "4"]], ["x + y^2"]))


class Generators(unittest.TestCase):

    def test_by_hand(self):
        for polynomials, wanted in [
            ([], []), (["1"], ["1"]), (["1", "x"], ["x"]), (["1", "x", "y"], ["x", "y"]),
            (["1", "x", "y", "x y"], ["x y"]), (["1", "x", "y", "x^2", "x y"], ["x^2", "x y"]),
            (["1", "x + y", "x^2 + 2 x y + y^2"], ["x^2 + 2 x y + y^2"]), (["1", "x", "y + x^2", "y"], ["y", "x^2"]),
            (["1", "x", "y + x^2"], ["y + x^2"]),
        ]:
            found = generators(space(*polynomials))
            self.assertIsInstance(found, list)
            self.assertEqual(texts(found), wanted)

    def test_they_make_up_the_space(self):
        many = []
        for found in closed_spaces():
            taken = generators(found)
            many.append(len(taken))
            self.assertEqual(len(taken), len(found) - len(derived_space(found)))
            self.assertEqual(Space(found.dimension, derivatives_of(taken, found.dimension)), found)
        self.assertGreater(max(many), 2)

    def test_the_first_members_that_are_needed(self):
        for found in closed_spaces():
            reached = list(derived_space(found))
            wanted = []
            for member in found:
                if member not in Space(found.dimension, reached):
                    wanted.append(member)
                    reached.append(member)
            self.assertEqual(generators(found), wanted)

    def test_not_closed(self):
        for polynomials in [["x"], ["1", "x y"], ["1 + x"]]:
            with self.assertRaises(NotClosed) as caught:
                generators(space(*polynomials))
            self.assertIsNone(caught.exception.certificate)
            self.assertIsInstance(caught.exception, SpotError)

    def test_nothing_is_changed(self):
        found = space("1", "x", "y")
        generators(found).clear()
        derived_space(found), is_closed(found), is_graded(found)
        self.assertEqual((texts(found), texts(generators(found))), (["1", "x", "y"], ["x", "y"]))

    def test_least_spaces(self):
        outcomes = []
        for lot in many_lots():
            found = least_space(lot)
            outcomes.append(is_closed(found))
            if lot.plain:
                self.assertTrue(outcomes[-1])
                taken = generators(found)
                self.assertEqual(Space(lot.dimension, derivatives_of(taken, lot.dimension)), found)
        self.assertGreater(outcomes.count(False), 5)


if __name__ == "__main__":
    unittest.main()

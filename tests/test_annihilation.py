import inspect
import unittest

from spotheights.annihilation import annihilated_space
from spotheights.calculus import apply_operator
from spotheights.errors import WrongDimension
from spotheights.monomials import monomials_up_to
from spotheights.polynomials import Polynomial
from spotheights.spaces import Space
from tests.helpers import Drawn, fraction, independent, poly, ratios, texts


def polys(dimension, *written):
    return [poly(text, dimension) for text in written]


def conditions(dimension, operators, degree):
    """How many independent conditions the operators make, by Python's own fractions."""
    places = list(monomials_up_to(dimension, degree))
    columns = []
    for place in places:
        images = [apply_operator(operator, Polynomial.monomial(place)) for operator in operators]
        columns.append([fraction(image.coefficient(target)) for image in images for target in places])
    return independent(columns)


class AnnihilatedSpaces(unittest.TestCase):

    def test_example(self):
        operators = [poly("x - y"), poly("x^2")]
        self.assertEqual(texts(annihilated_space(2, operators, degree=2)), ["1", "x + y"])

    def test_by_hand(self):
        for dimension, operators, degree, wanted in [
            (1, ["x^2"], 4, ["1", "x"]), (1, ["x"], 0, ["1"]), (1, ["1"], 4, []), (1, ["x^3"], 1, ["1", "x"]),
            (1, ["1 + x"], 3, []), (1, ["x - x^2"], 3, ["1"]), (2, ["x^2 + y^2"], 2, ["1", "x", "y", "x y", "-x^2 + y^2"]),
            (2, ["x", "y"], 4, ["1"]), (2, ["x"], 2, ["1", "y", "y^2"]), (2, ["0"], 1, ["1", "x", "y"]),
            (2, ["0", "x y", "0"], 2, ["1", "x", "y", "x^2", "y^2"]), (2, ["y - x^2"], 2, ["1", "x", "2 y + x^2"]),
            (3, ["x", "y"], 2, ["1", "z", "z^2"]), (3, ["x", "y", "z"], 3, ["1"]), (3, ["1 - x y z"], 3, []),
            (3, ["x + y + z", "x^2", "y^2"], 1, ["1", "-x + y", "-x + z"]), (2, ["x^5", "y^8"], 1, ["1", "x", "y"]),
        ]:
            with self.subTest(str((dimension, operators, degree))):
                space = annihilated_space(dimension, polys(dimension, *operators), degree=degree)
                self.assertEqual(texts(space), wanted)

    def test_no_operators(self):
        for dimension in [1, 2, 3]:
            for degree in range(-1, 5 if dimension < 3 else 4):
                space = annihilated_space(dimension, [], degree=degree)
                self.assertIsInstance(space, Space)
                wanted = [Polynomial.monomial(place) for place in monomials_up_to(dimension, degree)]
                self.assertEqual(list(space), wanted)
                self.assertEqual(annihilated_space(dimension, [Polynomial.zero(dimension)], degree=degree), space)

    def test_the_degree_before_0(self):
        for dimension in [1, 2, 3]:
            for operators in [[], polys(dimension, "x"), polys(dimension, "0", "1", "x^8")]:
                space = annihilated_space(dimension, operators, degree=-1)
                self.assertEqual(space, Space(dimension))

    def test_drawn_operators(self):
        drawn = Drawn(223)
        for dimension in [1, 2, 3]:
            for many in range(1, 6):
                for degree in range(5 if dimension < 3 else 4):
                    operators = [drawn.polynomial(dimension, drawn.integer(1, 4), 3, 3) for _ in range(many)]
                    if many < 3:
                        operators = [operator - operator.part(0) for operator in operators]
                    space = annihilated_space(dimension, operators, degree=degree)
                    self.assertLessEqual(space.degree, degree)
                    for member in space:
                        self.assertFalse(any([apply_operator(operator, member) for operator in operators]))
                    everything = len(list(monomials_up_to(dimension, degree)))
                    self.assertEqual(len(space), everything - conditions(dimension, operators, degree))

    def test_ten_operators_of_degree_8(self):
        drawn = Drawn(227)
        operators = [drawn.polynomial(3, 8, 40, 9999).top_part() for _ in range(10)]
        self.assertEqual(len(annihilated_space(3, operators, degree=3)), 20)
        operators = [drawn.polynomial(2, 8, 40, 9999) for _ in range(10)]
        self.assertEqual(len(annihilated_space(2, operators, degree=4)), 0)

    def test_errors(self):
        for dimension in [0, 4, -1]:
            with self.assertRaises(WrongDimension):
                annihilated_space(dimension, [], degree=2)
        for dimension in [1, 2, 3]:
            for other in [1, 2, 3]:
                if other != dimension:
                    for operators in [polys(other, "x"), [poly("x", dimension), poly("0", other)]]:
                        for degree in [-1, 2]:
                            with self.assertRaises(WrongDimension):
                                annihilated_space(dimension, operators, degree=degree)

    def test_the_degree_is_a_keyword(self):
        self.assertEqual(inspect.signature(annihilated_space).parameters["degree"].kind, inspect.Parameter.KEYWORD_ONLY)
        with self.assertRaises(TypeError):
            annihilated_space(2, [], 2)

    def test_what_was_passed_is_unchanged(self):
        operators = (poly("x - y"), poly("x^2"))
        space = annihilated_space(2, operators, degree=3)
        self.assertEqual(texts(operators), ["x - y", "x^2"])
        operators = list(operators)
        self.assertEqual(annihilated_space(2, operators, degree=3), space)
        operators.clear()
        self.assertEqual(texts(space), ["1", "x + y"])
        self.assertEqual(space.coordinates(poly("2 + 3 x + 3 y")), ratios("2 3"))


if __name__ == "__main__":
    unittest.main()

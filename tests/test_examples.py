"""All examples of the interface, as the document shows them; each one is run by itself."""

import unittest

from spotheights import errors

EXAMPLES = r"""
>>> from spotheights.ratios import Ratio
>>> str(2 - Ratio(9, -6))
'7/2'

>>> from spotheights.ratios import Ratio
>>> Ratio.read("6/4")
raises BadNumber

>>> from spotheights.monomials import monomials_of_degree
>>> monomials_of_degree(3, 2)
[(2, 0, 0), (1, 1, 0), (1, 0, 1), (0, 2, 0), (0, 1, 1), (0, 0, 2)]

>>> from spotheights.polytext import read_polynomial
>>> read_polynomial("1 - x + 3/2 x y^2", 2).terms()[2][0]
(1, 2)

>>> from spotheights.polytext import read_polynomial
>>> read_polynomial("x + 1", 2)
raises BadPolynomial

>>> from spotheights.matrices import kernel
>>> from spotheights.ratios import Ratio
>>> [str(entry) for entry in kernel([[Ratio(2), Ratio(3), Ratio(0)]], width=3)[0]]
['-3/2', '1', '0']

>>> from spotheights.questiontext import read_question
>>> from spotheights.polytext import read_polynomial
>>> str(read_question("at 1/2 -1 ask x", 2).ask(read_polynomial("x^2 y", 2)))
'-1'

>>> from spotheights.lots import Lot
>>> from spotheights.questiontext import read_question
>>> Lot(1, [read_question("at 0 ask x", 1), read_question("at 0 ask 1/2 x", 1)])
raises Dependent

>>> from spotheights.lots import Lot
>>> from spotheights.questiontext import read_question
>>> Lot(2, [read_question("at 1 0 ask x y", 2)]).width
4

>>> from spotheights.leastspace import least_space
>>> from spotheights.lots import Lot
>>> from spotheights.ratios import Ratio
>>> spots = [(Ratio(0), Ratio(0)), (Ratio(1), Ratio(1)), (Ratio(2), Ratio(2))]
>>> [str(p) for p in least_space(Lot.heights(2, spots))]
['1', 'x + y', 'x^2 + 2 x y + y^2']

>>> from spotheights.fitting import fit
>>> from spotheights.lots import Lot
>>> from spotheights.ratios import Ratio
>>> spots = [(Ratio(0), Ratio(0)), (Ratio(1), Ratio(1))]
>>> str(fit(Lot.heights(2, spots), [Ratio(3), Ratio(4)]))
'3 + 1/2 x + 1/2 y'

>>> from spotheights.lots import Lot
>>> from spotheights.membership import belonging
>>> from spotheights.polytext import read_polynomial
>>> from spotheights.ratios import Ratio
>>> spots = [(Ratio(0), Ratio(0)), (Ratio(1), Ratio(1))]
>>> belonging(Lot.heights(2, spots), read_polynomial("x - y", 2)).VERDICT
False

>>> from spotheights.ideals import Ideal
>>> from spotheights.lots import Lot
>>> from spotheights.orders import Order
>>> from spotheights.ratios import Ratio
>>> lot = Lot.heights(2, [(Ratio(0), Ratio(0)), (Ratio(1), Ratio(1))])
>>> [str(p) for p in Ideal(lot, Order("degree", (0, 1))).basis()]
['-x + y', '-x + x^2']

>>> from spotheights.annihilation import annihilated_space
>>> from spotheights.polytext import read_polynomial
>>> operators = [read_polynomial("x - y", 2), read_polynomial("x^2", 2)]
>>> [str(p) for p in annihilated_space(2, operators, degree=2)]
['1', 'x + y']

>>> from spotheights.lots import Lot
>>> from spotheights.polytext import read_polynomial
>>> from spotheights.ratios import Ratio
>>> from spotheights.rivals import judge_degrees
>>> from spotheights.spaces import Space
>>> lot = Lot.heights(2, [(Ratio(0), Ratio(0)), (Ratio(1), Ratio(1))])
>>> space = Space(2, [read_polynomial("1", 2), read_polynomial("x y", 2)])
>>> judge_degrees(lot, space).exponents
(1, 0)

>>> from spotheights.questiontext import read_question
>>> from spotheights.lots import Lot
>>> from spotheights.staircases import judge_staircase
>>> texts = ["at 5 1", "at 2 1", "at 2 7"]
>>> found = judge_staircase(Lot(2, [read_question(text, 2) for text in texts]))
>>> [[str(level) for level in row] for row in found.levels]
[['2', '5'], ['1', '7']]

>>> from spotheights.closure import filled
>>> from spotheights.lots import Lot
>>> from spotheights.questiontext import read_question
>>> [str(question) for question in filled(Lot(2, [read_question("at 1 0 ask x y", 2)]))]
['at 1 0 ask x y', 'at 1 0 ask y', 'at 1 0 ask x', 'at 1 0']

>>> from spotheights.algebra import multiply_answers
>>> from spotheights.lots import Lot
>>> from spotheights.questiontext import read_question
>>> from spotheights.ratios import Ratio
>>> lot = Lot(1, [read_question("at 2", 1), read_question("at 2 ask x", 1)])
>>> [str(number) for number in multiply_answers(lot, [Ratio(3), Ratio(1)], [Ratio(5), Ratio(-1)])]
['15', '2']

>>> from spotheights.lots import Lot
>>> from spotheights.newton import newton_basis
>>> from spotheights.ratios import Ratio
>>> spots = [(Ratio(0), Ratio(0)), (Ratio(1), Ratio(1)), (Ratio(2), Ratio(0))]
>>> [str(p) for p in newton_basis(Lot.heights(2, spots))]
['1', '1/2 x + 1/2 y', '1/2 x - 1/2 y']

>>> from spotheights.questiontext import read_question
>>> from spotheights.survey import Survey
>>> survey = Survey(2)
>>> survey.put("a", read_question("at 0 0", 2))
>>> survey.put("b", read_question("at 3 0", 2))
>>> survey.put("c", read_question("at 7 0", 2))
>>> survey.growth()
[0, 1, 2]

>>> from spotheights.desk import Desk
>>> lines = ["put a at 0 0", "put b at 1 1", "tell a 3", "tell b 4", "fit", "counts", "normal variables xy"]
>>> Desk(2).run(lines)
['put a: degree 0', 'put b: degree 1', 'tell a: 3', 'tell b: 4', '3 + 1/2 x + 1/2 y', '1 1', '1, y']

>>> from spotheights.desk import Desk
>>> Desk(2).run(["put a at 0 0", "put a at 1 1"])
raises BadLine
"""


def parts(example):
    """The lines of code of an example, and what the last of them must give."""
    lines = example.splitlines()
    code = [line[4:] for line in lines if line.startswith(">>> ")]
    return code, [line for line in lines if not line.startswith(">>> ")]


class Examples(unittest.TestCase):

    def test_all(self):
        examples = EXAMPLES.strip().split("\n\n")
        self.assertEqual(len(examples), 22)
        for example in examples:
            with self.subTest(example):
                code, wanted = parts(example)
                self.assertEqual(len(wanted), 1)
                names = {}
                for line in code[:-1]:
                    exec(line, names)
                if wanted[0].startswith("raises "):
                    error = getattr(errors, wanted[0].removeprefix("raises "))
                    with self.assertRaises(error) as caught:
                        eval(code[-1], names)
                    self.assertIs(caught.exception.__class__, error)
                else:
                    self.assertEqual(repr(eval(code[-1], names)), wanted[0])


if __name__ == "__main__":
    unittest.main()

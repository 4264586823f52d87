import functools
import unittest

from spotheights.annihilation import annihilated_space
from spotheights.calculus import apply_operator
from spotheights.errors import NotClosed, NotDegree, WrongDimension
from spotheights.ideals import Ideal
from spotheights.leastspace import least_space
from spotheights.lots import Lot
from spotheights.lowersets import is_lower
from spotheights.monomials import divides, monomials_up_to
from spotheights.orders import Order
from spotheights.polynomials import Polynomial
from spotheights.ratios import Ratio
from spotheights.verdicts import Spoiled
from tests.helpers import Checks, Drawn, all_orders, closed_lots, fraction, lot, mixed, open_lots, poly, texts
from tests.helpers import independent

PAIR = lot("at 0 0", "at 1 1")


@functools.lru_cache
def ideals(kinds=("degree", "variables")):
    return [Ideal(found, order) for found in closed_lots() for order in all_orders(found.dimension, kinds)]


def degree_ideals():
    return ideals(("degree",))


def last_by(order, polynomial):
    """The last monomial of the polynomial in the order."""
    return order.arranged([exponents for exponents, _ in polynomial.terms()])[-1]


def normal_by_ranks(found, order):
    """The monomials whose answers are no combination of those of earlier ones, by Python's own fractions."""
    normal = []
    kept = []
    # Normal monomials have degrees below 8, and the answers of all others are combinations of those of earlier normals.
    for exponents in order.arranged(list(monomials_up_to(found.dimension, 8 if found.dimension < 3 else 5))):
        row = [fraction(answers[0]) for answers in found.table([exponents])]
        if independent([*kept, row]) > len(kept):
            kept.append(row)
            normal.append(exponents)
    return normal


class Bases(unittest.TestCase):

    def test_example(self):
        found = Ideal(Lot.heights(2, [(Ratio(0), Ratio(0)), (Ratio(1), Ratio(1))]), Order("degree", (0, 1)))
        self.assertEqual(texts(found.basis()), ["-x + y", "-x + x^2"])

    def test_by_hand(self):
        for questions, kind, ranking, normal, basis, dimension in [
            (["at 0 0", "at 1 1"], "degree", (1, 0), ["1", "y"], ["x - y", "-y + y^2"], 2),
            (["at 0 0", "at 1 1"], "variables", (0, 1), ["1", "y"], ["-y + y^2", "x - y"], 2),
            (["at 0 0", "at 1 1"], "variables", (1, 0), ["1", "x"], ["-x + x^2", "-x + y"], 2),
            (["at 2", "at 3"], "degree", (0,), ["1", "x"], ["6 - 5 x + x^2"], 1),
            (["at 0", "at 0 ask x", "at 1"], "variables", (0,), ["1", "x", "x^2"], ["-x^2 + x^3"], 1),
            (["at 3 4"], "degree", (0, 1), ["1"], ["-3 + x", "-4 + y"], 2),
            (["at 3 4"], "degree", (1, 0), ["1"], ["-4 + y", "-3 + x"], 2),
            (["at 0 0", "at 0 1", "at 0 2"], "variables", (0, 1), ["1", "y", "y^2"], ["2 y - 3 y^2 + y^3", "x"], 2),
            (["at 0 0", "at 0 1", "at 0 2"], "degree", (0, 1), ["1", "y", "y^2"], ["x", "2 y - 3 y^2 + y^3"], 2),
            (["at 0 0", "at 0 0 ask x", "at 0 0 ask y"], "degree", (0, 1), ["1", "x", "y"], ["x^2", "x y", "y^2"], 2),
            (["at 1 2 3", "at 2 4 6"], "variables", (2, 0, 1), ["1", "y"],
             ["8 - 6 y + y^2", "x - 1/2 y", "-3/2 y + z"], 3),
            (["at 0", "at 1", "at 2", "at 3"], "variables", (0,), ["1", "x", "x^2", "x^3"],
             ["-6 x + 11 x^2 - 6 x^3 + x^4"], 1),
        ]:
            with self.subTest(str((questions, kind, ranking))):
                found = Ideal(lot(*questions, dimension=dimension), Order(kind, ranking))
                self.assertEqual([str(Polynomial.monomial(place)) for place in found.normal_monomials()], normal)
                self.assertEqual(texts(found.basis()), basis)

    def test_attributes(self):
        order = Order("variables", (1, 0))
        found = Ideal(PAIR, order)
        self.assertEqual((found.lot, found.order, found.dimension), (PAIR, order, 2))

    def test_the_empty_lot(self):
        for dimension in [1, 2, 3]:
            for order in all_orders(dimension):
                found = Ideal(Lot.empty(dimension), order)
                self.assertEqual(found.normal_monomials(), [])
                self.assertEqual(found.heads(), [(0,) * dimension])
                self.assertEqual(texts(found.basis()), ["1"])
                self.assertIn(poly("1 + x^3", dimension), found)
                self.assertEqual(str(found.rest(poly("1 + x", dimension))), "0")
                if order.kind == "degree":
                    self.assertEqual(texts(found.multipliers(poly("1 + x^3", dimension))), ["1 + x^3"])
                    self.assertEqual(texts(found.tops()), ["1"])

    def test_normal_monomials_by_ranks(self):
        for found in closed_lots()[::2]:
            for order in all_orders(found.dimension):
                if found.dimension < 3 or len(found) < 7:
                    self.assertEqual(Ideal(found, order).normal_monomials(), normal_by_ranks(found, order))

    def test_normal_monomials(self):
        for found in ideals():
            normal = found.normal_monomials()
            self.assertEqual(len(normal), len(found.lot))
            self.assertTrue(is_lower(normal))
            self.assertTrue(all([isinstance(exponents, tuple) for exponents in normal]))
            for first, second in zip(normal, normal[1:]):
                self.assertTrue(found.order.precedes(first, second))

    def test_heads(self):
        for found in ideals():
            normal = found.normal_monomials()
            wanted = []
            for exponents in monomials_up_to(found.dimension, 8):
                divisors = [(*exponents[:k], exponents[k] - 1, *exponents[k + 1:])
                            for k in range(found.dimension) if exponents[k]]
                if exponents not in normal and all([divisor in normal for divisor in divisors]):
                    wanted.append(exponents)
            self.assertEqual(found.heads(), found.order.arranged(wanted))

    def test_basis(self):
        for found in ideals():
            basis = found.basis()
            heads = found.heads()
            self.assertEqual(len(basis), len(heads))
            for head, polynomial in zip(heads, basis):
                self.assertIsInstance(polynomial, Polynomial)
                self.assertFalse(any(found.lot.ask(polynomial)))
                self.assertEqual(last_by(found.order, polynomial), head)
                self.assertEqual(polynomial.coefficient(head), 1)
                others = [exponents for exponents, _ in polynomial.terms() if exponents != head]
                self.assertTrue(all([exponents in found.normal_monomials() for exponents in others]))
                monomial = Polynomial.monomial(head)
                self.assertEqual(monomial - found.rest(monomial), polynomial)
                self.assertIn(polynomial, found)

    def test_heads_by_the_order_of_the_ideal(self):
        # By the standard order the last monomial of x - y^2 would be y^2.
        found = Ideal(lot("at 0 0", "at 1 1", "at 4 2"), Order("variables", (0, 1)))
        self.assertEqual(found.heads(), [(0, 3), (1, 0)])
        self.assertEqual(texts(found.basis()), ["2 y - 3 y^2 + y^3", "x - y^2"])
        self.assertEqual(found.basis()[1].head(), (0, 2))

    def test_vanishing_polynomials_are_sums_of_multiples(self):
        # Each monomial that is not normal is a multiple of a head, so what vanishes can be made smaller and smaller.
        drawn = Drawn(207)
        for found in ideals():
            polynomial = drawn.polynomial(found.dimension, 4)
            polynomial = polynomial - found.rest(polynomial)
            steps = 0
            while polynomial:
                head = last_by(found.order, polynomial)
                at = [k for k, place in enumerate(found.heads()) if divides(place, head)][0]
                factor = tuple([high - low for high, low in zip(head, found.heads()[at])])
                product = Polynomial(found.dimension, [(factor, polynomial.coefficient(head))]) * found.basis()[at]
                polynomial = polynomial - product
                steps += 1
            self.assertLess(steps, 400)


class Answers(unittest.TestCase):

    def test_rests_by_hand(self):
        found = Ideal(PAIR, Order("degree", (0, 1)))
        for text, wanted in [("0", "0"), ("7", "7"), ("x", "x"), ("y", "x"), ("x^2 y^6", "x"), ("1 - x + x y", "1"),
                             ("x - y", "0"), ("2 x + 3 y^4", "5 x")]:
            self.assertEqual(str(found.rest(poly(text))), wanted)

    def test_rests(self):
        drawn = Drawn(209)
        for found in ideals():
            for polynomial in [drawn.polynomial(found.dimension, 8), Polynomial.zero(found.dimension)]:
                rest = found.rest(polynomial)
                self.assertEqual(found.lot.ask(rest), found.lot.ask(polynomial))
                for exponents, _ in rest.terms():
                    self.assertIn(exponents, found.normal_monomials())
                self.assertEqual(found.rest(rest), rest)

    def test_membership(self):
        drawn = Drawn(211)
        for found in ideals():
            polynomial = drawn.polynomial(found.dimension, 8)
            self.assertIs(polynomial in found, not any(found.lot.ask(polynomial)))
            self.assertIs(polynomial - found.rest(polynomial) in found, True)
            self.assertIs(Polynomial.zero(found.dimension) in found, True)
            self.assertIs(poly("1", found.dimension) in found, not any(found.lot.ask(poly("1", found.dimension))))

    def test_membership_by_hand(self):
        found = Ideal(PAIR, Order("degree", (0, 1)))
        for text, wanted in [("x - y", True), ("x", False), ("1", False), ("0", True), ("x^2 - x y^3", True)]:
            self.assertIs(poly(text) in found, wanted)

    def test_polynomials_of_another_dimension(self):
        for found in ideals()[::7]:
            for dimension in [1, 2, 3]:
                if dimension != found.dimension:
                    self.assertIs(poly("0", dimension) in found, False)
                    self.assertIs(poly("x", dimension) in found, False)
                    with self.assertRaises(WrongDimension):
                        found.rest(poly("0", dimension))
                    if found.order.kind == "degree":
                        with self.assertRaises(WrongDimension):
                            found.multipliers(poly("0", dimension))

    def test_the_normal_monomials_are_independent_of_the_order_of_the_questions(self):
        for found in closed_lots():
            turned = found.part(list(range(len(found)))[::-1])
            for order in all_orders(found.dimension):
                self.assertEqual(Ideal(turned, order).basis(), Ideal(found, order).basis())


class Multipliers(unittest.TestCase):

    def assert_multipliers(self, found, polynomial):
        multipliers = found.multipliers(polynomial)
        self.assertIsInstance(multipliers, list)
        self.assertEqual(len(multipliers), len(found.basis()))
        total = found.rest(polynomial)
        for multiplier, member in zip(multipliers, found.basis()):
            if multiplier:
                self.assertLessEqual(multiplier.degree + member.degree, polynomial.degree)
            total = total + multiplier * member
        self.assertEqual(total, polynomial)

    def test_by_hand(self):
        found = Ideal(PAIR, Order("degree", (0, 1)))
        self.assertEqual(texts(found.multipliers(poly("3 - x + y"))), ["1", "0"])
        self.assertEqual(texts(found.multipliers(poly("x + 2 x^2"))), ["0", "2"])
        self.assertEqual(texts(found.multipliers(poly("0"))), ["0", "0"])
        self.assertEqual(texts(found.multipliers(poly("5 - 7 x"))), ["0", "0"])
        self.assert_multipliers(found, poly("4 - x y + 1/3 y^7 - x^2 y^6"))

    def test_every_ideal(self):
        drawn = Drawn(213)
        for found in degree_ideals():
            self.assert_multipliers(found, drawn.polynomial(found.dimension, 8, 5))
            self.assert_multipliers(found, drawn.polynomial(found.dimension, 3, 8))
            self.assert_multipliers(found, drawn.polynomial(found.dimension, 6, 9).top_part())
            self.assert_multipliers(found, drawn.polynomial(found.dimension, 8, 5) * Ratio(10 ** 59 - 1, 10 ** 59 + 9))

    def test_special_polynomials(self):
        for found in degree_ideals():
            self.assertFalse(any(found.multipliers(Polynomial.zero(found.dimension))))
            self.assert_multipliers(found, Polynomial.constant(found.dimension, Ratio(3)))
            for at, member in enumerate(found.basis()):
                wanted = [poly("1" if k == at else "0", found.dimension) for k in range(len(found.basis()))]
                self.assertEqual(found.multipliers(member), wanted)
            for exponents in found.normal_monomials():
                self.assertFalse(any(found.multipliers(Polynomial.monomial(exponents))))

    def test_all_terms(self):
        drawn = Drawn(215)
        for found in degree_ideals()[::5]:
            places = list(monomials_up_to(found.dimension, 8))
            self.assert_multipliers(found, Polynomial(found.dimension, [(place, drawn.ratio()) for place in places]))

    def test_tops(self):
        self.assertEqual(texts(Ideal(PAIR, Order("degree", (0, 1))).tops()), ["-x + y", "x^2"])
        for found in degree_ideals():
            self.assertEqual(found.tops(), [member.top_part() for member in found.basis()])
            self.assertEqual([top.degree for top in found.tops()], [sum(head) for head in found.heads()])


class Facts(unittest.TestCase):

    def test_as_many_normal_monomials_as_members_of_each_degree(self):
        for found in degree_ideals():
            degrees = [sum(exponents) for exponents in found.normal_monomials()]
            self.assertEqual(sorted(degrees), [member.degree for member in least_space(found.lot)])

    def test_tops_take_the_least_space_to_zero(self):
        for found in degree_ideals():
            for member in least_space(found.lot):
                for top in found.tops():
                    self.assertFalse(apply_operator(top, member))

    def test_what_the_tops_take_to_zero_belongs(self):
        drawn = Drawn(217)
        seen = 0
        for found in degree_ideals()[::3]:
            space = least_space(found.lot)
            for _ in range(6):
                polynomial = mixed(list(space), drawn.row(len(space), 3), found.dimension)
                polynomial = polynomial + drawn.polynomial(found.dimension, 2, drawn.integer(0, 1), 3)
                gone = not any([apply_operator(top, polynomial) for top in found.tops()])
                self.assertIs(gone, polynomial in space)
                seen += gone is False
        self.assertGreater(seen, 20)

    def test_top_parts_of_vanishing_polynomials(self):
        drawn = Drawn(219)
        for found in degree_ideals()[::2]:
            total = Polynomial.zero(found.dimension)
            for member in found.basis():
                total = total + member * drawn.polynomial(found.dimension, 3)
            self.assertIn(total, found)
            for member in least_space(found.lot):
                self.assertFalse(apply_operator(total.top_part(), member))

    def test_the_least_space_is_the_annihilated_space(self):
        seen = 0
        for found in degree_ideals():
            space = least_space(found.lot)
            tops = found.tops()
            for degree in range(max(space.degree, 0), 5 if found.dimension < 3 else 4):
                if len(tops) <= 10:
                    self.assertEqual(annihilated_space(found.dimension, tops, degree=degree), space)
                    seen += 1
        self.assertGreater(seen, 100)


class Errors(Checks):

    def test_lots_that_are_not_closed(self):
        for found in open_lots():
            for order in all_orders(found.dimension)[::3] + all_orders(found.dimension % 3 + 1)[::3]:
                with self.assertRaises(NotClosed) as caught:
                    Ideal(found, order)
                certificate = caught.exception.certificate
                self.assertIsInstance(certificate, Spoiled)
                self.assertEqual(certificate.lot, found)
                self.assert_holds(certificate)

    def test_orders_of_another_dimension(self):
        for found in closed_lots()[::4]:
            for dimension in [1, 2, 3]:
                for order in all_orders(dimension):
                    if dimension != found.dimension:
                        with self.assertRaises(WrongDimension):
                            Ideal(found, order)

    def test_orders_that_are_not_by_degree(self):
        for found in ideals(("variables",)):
            for polynomial in [poly("x", found.dimension), poly("0", found.dimension % 3 + 1)]:
                with self.assertRaises(NotDegree):
                    found.multipliers(polynomial)
            with self.assertRaises(NotDegree):
                found.tops()

    def test_lists_are_new(self):
        for kind in ["degree", "variables"]:
            found = Ideal(lot("at 0 0", "at 1 1", "at 5 2"), Order(kind, [0, 1]))
            before = [list(found.normal_monomials()), list(found.basis()), list(found.heads())]
            found.normal_monomials().clear()
            found.basis().clear()
            found.heads().clear()
            if kind == "degree":
                found.tops().clear()
                found.multipliers(poly("x^2")).clear()
                self.assertEqual(texts(found.tops()), [str(member.top_part()) for member in before[1]])
            self.assertEqual([found.normal_monomials(), found.basis(), found.heads()], before)

    def test_what_was_passed_is_unchanged(self):
        ranking = [1, 0]
        order = Order("degree", ranking)
        found = Ideal(PAIR, order)
        ranking.reverse()
        polynomial = poly("-3 y + x^2")
        found.rest(polynomial)
        found.multipliers(polynomial)
        self.assertEqual((str(polynomial), str(order)), ("-3 y + x^2", "degree yx"))
        self.assertEqual(texts(PAIR), ["at 0 0", "at 1 1"])
        self.assertEqual(texts(found.basis()), ["x - y", "-y + y^2"])


if __name__ == "__main__":
    unittest.main()

import unittest

from spotheights.certificates import Certificate
from spotheights.fitting import Fitter, project
from spotheights.leastspace import least_space
from spotheights.lots import Lot
from spotheights.monomials import monomials_up_to
from spotheights.polynomials import Polynomial
from spotheights.ratios import Ratio
from spotheights.spaces import Space
from spotheights.verdicts import Closed, Crossed, Fits, Gap, Keeps, Raises, Spoiled, Stairs
from tests.helpers import Checks, lot, many_lots, poly, ratios, space, table, texts

PAIR = lot("at 0 0", "at 1 1")
LINEAR = space("1", "x + y")
BAND = space("1", "x y")


def polys(*found, dimension=2):
    return [poly(text, dimension) for text in found]


class Bases(Checks):

    def test_names_and_verdicts(self):
        for kind, name, verdict in [(Fits, "fits", True), (Gap, "gap", False), (Keeps, "keeps", True),
                                    (Raises, "raises", False), (Closed, "closed", True), (Spoiled, "spoiled", False),
                                    (Stairs, "stairs", True), (Crossed, "crossed", False)]:
            self.assertEqual((kind.NAME, kind.VERDICT, kind.__bases__), (name, verdict, (Certificate,)))
            self.assertIn("holds", vars(kind))


class FittingSpaces(Checks):

    def test_one_that_holds(self):
        cardinals = polys("1 - 1/2 x - 1/2 y", "1/2 x + 1/2 y")
        certificate = Fits(PAIR, LINEAR, cardinals)
        self.assert_holds(certificate)
        self.assertEqual(certificate.line(), "fits: holds")
        self.assertEqual((certificate.polynomials(), certificate.weight_lists()), (cardinals, []))
        self.assert_holds(Fits(PAIR, BAND, polys("1 - x y", "x y")))
        self.assert_holds(Fits(Lot.empty(2), Space(2), []))

    def test_least_spaces(self):
        for found in many_lots():
            fitter = Fitter(found)
            self.assert_holds(Fits(found, fitter.space, fitter.cardinals()))

    def test_numbers_of_members_and_cardinals(self):
        cardinals = polys("1 - x y", "x y")
        self.assert_fails(Fits(PAIR, space("1", "x y", "x"), cardinals))
        self.assert_fails(Fits(PAIR, space("1"), cardinals))
        self.assert_fails(Fits(PAIR, BAND, cardinals[:1]))
        self.assert_fails(Fits(PAIR, BAND, [*cardinals, poly("0")]))
        self.assert_fails(Fits(PAIR, BAND, []))
        self.assert_fails(Fits(Lot.empty(2), space("1"), []))

    def test_cardinals_outside(self):
        self.assert_fails(Fits(PAIR, BAND, polys("1 - x y", "x")))
        self.assert_fails(Fits(PAIR, BAND, polys("1 - x", "x y")))

    def test_wrong_answers(self):
        for cardinals in [polys("x y", "1 - x y"), polys("1", "x y"), polys("1 - x y", "2 x y"), polys("0", "0"),
                          polys("1 - x y", "1")]:
            self.assert_fails(Fits(PAIR, BAND, cardinals))

    def test_dimensions(self):
        for dimension in [1, 3]:
            self.assert_fails(Fits(PAIR, space("1", "x", dimension=dimension), polys("1 - x y", "x y")))
            self.assert_fails(Fits(PAIR, BAND, [poly("1 - x y"), poly("x", dimension)]))
            self.assert_fails(Fits(PAIR, space("1", "x", dimension=dimension), polys("1 - x", "x", dimension=dimension)))
            self.assert_fails(Fits(Lot.empty(2), Space(dimension), []))


class Gaps(Checks):

    flat = space("x - y", "1")

    def test_ones_that_hold(self):
        certificate = Gap(PAIR, self.flat, poly("2 x - 2 y"), ratios("1 -1"))
        self.assert_holds(certificate)
        self.assertEqual(certificate.line(), "gap: holds")
        self.assertEqual((certificate.polynomials(), certificate.weight_lists()), (polys("2 x - 2 y"), [ratios("1 -1")]))
        certificate = Gap(PAIR, self.flat, poly("x - y"), None)
        self.assert_holds(certificate)
        self.assertEqual((certificate.polynomials(), certificate.weight_lists()), (polys("x - y"), []))
        certificate = Gap(PAIR, self.flat, None, ratios("1 -1"))
        self.assert_holds(certificate)
        self.assertEqual((certificate.polynomials(), certificate.weight_lists()), ([], [ratios("1 -1")]))
        self.assert_holds(Gap(PAIR, space("1", "x", "y"), poly("x - y"), None))
        self.assert_holds(Gap(PAIR, space("x"), None, ratios("1 0")))
        self.assert_holds(Gap(PAIR, Space(2), None, ratios("0 1")))
        self.assert_holds(Gap(Lot.empty(2), space("1"), poly("1"), None))

    def test_neither(self):
        certificate = Gap(PAIR, self.flat, None, None)
        self.assertEqual((certificate.polynomials(), certificate.weight_lists()), ([], []))
        self.assertEqual((certificate.member, certificate.weights), (None, None))
        self.assert_fails(certificate)

    def test_members(self):
        for text in ["0", "x - y + x^2 - x y", "1", "x - 2 y", "1 + x - y"]:
            self.assert_fails(Gap(PAIR, self.flat, poly(text), None))
            self.assert_fails(Gap(PAIR, self.flat, poly(text), ratios("1 -1")))

    def test_weights(self):
        for text in ["0 0", "1 1", "1 0", "1 -2"]:
            self.assert_fails(Gap(PAIR, self.flat, None, ratios(text)))
            self.assert_fails(Gap(PAIR, self.flat, poly("x - y"), ratios(text)))
        self.assert_fails(Gap(PAIR, LINEAR, None, ratios("1 -1")))
        self.assert_fails(Gap(Lot.empty(2), Space(2), None, []))

    def test_lengths_and_dimensions(self):
        for text in ["1", "1 -1 0", ""]:
            self.assert_fails(Gap(PAIR, self.flat, None, ratios(text)))
            self.assert_fails(Gap(PAIR, self.flat, poly("x - y"), ratios(text)))
        for dimension in [1, 3]:
            self.assert_fails(Gap(PAIR, space("1", dimension=dimension), None, ratios("1 -1")))
            self.assert_fails(Gap(PAIR, self.flat, poly("0", dimension), ratios("1 -1")))
            self.assert_fails(Gap(Lot.empty(2), space("x", dimension=dimension), poly("x", dimension), None))
            self.assert_fails(Gap(PAIR, Space(dimension), None, ratios("1 -1")))


class KeptDegrees(Checks):

    diagonal = lot("at 0 0", "at 1 1", "at 2 2")
    quadratic = space("1", "x", "x^2")

    def test_one_that_holds(self):
        certificate = Keeps(self.diagonal, self.quadratic, polys("1", "x", "x"))
        self.assert_holds(certificate)
        self.assertEqual(certificate.line(), "keeps: holds")
        self.assertEqual((certificate.polynomials(), certificate.weight_lists()), (polys("1", "x", "x"), []))

    def test_least_spaces(self):
        for found in many_lots():
            found_space = least_space(found)
            places = monomials_up_to(found.dimension, found_space.degree - 1)
            fitted = [project(found, Polynomial.monomial(place)) for place in places]
            self.assert_holds(Keeps(found, found_space, fitted))

    def test_no_monomials(self):
        for found, one in [(Lot.empty(2), Space(2)), (lot("at 3 4"), space("1")), (PAIR, space("1")), (PAIR, Space(2))]:
            self.assert_holds(Keeps(found, one, []))
            self.assert_fails(Keeps(found, one, polys("1")))

    def test_numbers_of_polynomials(self):
        for fitted in [[], polys("1"), polys("1", "x"), polys("1", "x", "x", "x^2")]:
            self.assert_fails(Keeps(self.diagonal, self.quadratic, fitted))

    def test_outside_the_space(self):
        self.assert_fails(Keeps(self.diagonal, self.quadratic, polys("1", "x", "y")))
        self.assert_fails(Keeps(self.diagonal, space("1", "y", "x^2"), polys("1", "x", "y")))

    def test_other_answers(self):
        for fitted in [polys("2", "x", "x"), polys("1", "1 + x", "x"), polys("1", "x", "1"), polys("x", "1", "x")]:
            self.assert_fails(Keeps(self.diagonal, self.quadratic, fitted))

    def test_higher_degrees(self):
        wide = space("1", "x", "x^2", "x - y", "x^2 - x y")
        self.assert_holds(Keeps(self.diagonal, wide, polys("1", "x", "y")))
        self.assert_fails(Keeps(self.diagonal, wide, polys("1", "x", "x + x^2 - x y")))
        self.assert_fails(Keeps(PAIR, BAND, polys("1", "x y", "x y")))
        self.assert_fails(Keeps(PAIR, space("1", "x", "x - y"), polys("1 + x - y")))

    def test_dimensions(self):
        for dimension in [1, 3]:
            self.assert_fails(Keeps(self.diagonal, self.quadratic, [*polys("1", "x"), poly("x", dimension)]))
            self.assert_fails(Keeps(self.diagonal, space("1", "x", dimension=dimension), polys("1")))
            self.assert_fails(Keeps(self.diagonal, Space(dimension), []))
            self.assert_fails(Keeps(lot("at 1 1"), space("1", "x", dimension=dimension), polys("1", dimension=dimension)))

    def test_a_space_of_degree_16(self):
        high = space("1", "x^8", dimension=1) * space("1", "x^8", dimension=1)
        self.assert_fails(Keeps(PAIR, high, []))
        self.assert_fails(Keeps(PAIR, high, [poly("1")] * 136))


class RaisedDegrees(Checks):

    def test_one_that_holds(self):
        certificate = Raises(PAIR, BAND, (1, 0), poly("x y"))
        self.assert_holds(certificate)
        self.assertEqual(certificate.line(), "raises: holds")
        self.assertEqual((certificate.polynomials(), certificate.weight_lists()), (polys("x y"), []))
        self.assert_holds(Raises(PAIR, BAND, [0, 1], poly("x y")))
        self.assert_holds(Raises(PAIR, space("1 + x - y", "x y"), (0, 0), poly("1 + x - y")))

    def test_outside_the_space(self):
        self.assert_fails(Raises(PAIR, BAND, (1, 0), poly("x^2")))

    def test_other_answers(self):
        for text in ["2 x y", "1 - x y", "1 + x y"]:
            self.assert_fails(Raises(PAIR, BAND, (1, 0), poly(text)))

    def test_no_higher_degree(self):
        self.assert_fails(Raises(PAIR, BAND, (1, 1), poly("x y")))
        self.assert_fails(Raises(PAIR, BAND, (2, 0), poly("x y")))
        self.assert_fails(Raises(PAIR, BAND, (0, 0), poly("1")))
        self.assert_fails(Raises(lot("at 0 0"), BAND, (1, 0), poly("0")))

    def test_exponents(self):
        for exponents in [(), (1,), (1, 0, 0), (-1, 1), (1, -1), (2, -1), (-1, 0), (17, 0), (9, 8), (-1, 17), (16, 1)]:
            self.assert_fails(Raises(PAIR, BAND, exponents, poly("x y")))
        for exponents in [(2, -1), (-1, 2), (1, -1)]:
            self.assert_fails(Raises(PAIR, space("1", "x^2 - x y"), exponents, poly("x^2 - x y")))
        self.assert_fails(Raises(PAIR, BAND, (10 ** 20, 0), poly("x y")))
        self.assert_fails(Raises(PAIR, BAND, (16, 0), poly("x y")))
        self.assert_fails(Raises(PAIR, BAND, (0, 16), poly("x^16")))

    def test_degree_16(self):
        high = Space(1, [poly("x^8", 1)]) * Space(1, [poly("x^8", 1)])
        self.assert_holds(Raises(lot("at 1 1"), high, (15, 0), poly("x^8 y^8")))
        self.assert_fails(Raises(lot("at 1 1"), high, (16, 0), poly("x^8 y^8")))

    def test_dimensions(self):
        for dimension in [1, 3]:
            self.assert_fails(Raises(PAIR, BAND, (1, 0), poly("x^2", dimension)))
            self.assert_fails(Raises(PAIR, space("1", "x", dimension=dimension), (0, 0), poly("x y")))
            self.assert_fails(Raises(PAIR, space("1", "x^2", dimension=dimension), (1,) + (0,) * (dimension - 1),
                                     poly("x^2", dimension)))

    def test_exponents_are_kept_as_a_tuple(self):
        exponents = [1, 0]
        certificate = Raises(PAIR, BAND, exponents, poly("x y"))
        exponents.clear()
        self.assertEqual(certificate.exponents, (1, 0))
        self.assertIsInstance(certificate.exponents, tuple)
        self.assertEqual(Raises(PAIR, BAND, [1, -2, 3], poly("x y")).exponents, (1, -2, 3))
        self.assertEqual((certificate.space, certificate.fitted), (BAND, poly("x y")))


class ClosedLots(Checks):

    found = lot("at 1 0 ask x y", "at 1 0 ask y", "at 0 0", "at 1 0 ask x", "at 1 0")
    tables = [table("0 1 0 0 0", "0 0 0 0 0", "0 0 0 0 0", "0 0 0 0 1", "0 0 0 0 0"),
              table("0 0 0 1 0", "0 0 0 0 1", "0 0 0 0 0", "0 0 0 0 0", "0 0 0 0 0")]

    def with_row(self, variable, index, row):
        tables = [list(rows) for rows in self.tables]
        tables[variable][index] = ratios(row)
        return Closed(self.found, tables)

    def test_one_that_holds(self):
        certificate = Closed(self.found, self.tables)
        self.assert_holds(certificate)
        self.assertEqual(certificate.line(), "closed: holds")
        self.assertEqual((certificate.polynomials(), certificate.weight_lists()), ([], self.tables[0] + self.tables[1]))
        self.assert_holds(Closed(PAIR, [table("0 0", "0 0")] * 2))
        self.assert_holds(Closed(lot("at 2 ask 4 + x^2", "at 2", "at 2 ask 3 x", dimension=1),
                                 [table("0 0 2/3", "0 0 0", "0 3 0")]))
        for dimension in [1, 2, 3]:
            self.assert_holds(Closed(Lot.empty(dimension), [[]] * dimension))

    def test_weights_that_do_not_make_the_derivative(self):
        for variable, index, row in [(0, 0, "0 2 0 0 0"), (0, 0, "0 1 0 1 0"), (1, 0, "0 0 0 0 0"), (1, 4, "0 0 0 0 1"),
                                     (0, 3, "0 0 0 0 0")]:
            self.assert_fails(self.with_row(variable, index, row))

    def test_weights_at_other_spots(self):
        # The derivative of what is asked at 1 0 would come out, but a question at 0 0 has a weight.
        self.assert_fails(self.with_row(0, 0, "0 1 1 0 0"))
        self.assert_fails(self.with_row(0, 3, "0 0 1 0 0"))
        self.assert_fails(Closed(PAIR, [table("0 1", "0 0"), table("0 0", "0 0")]))

    def test_numbers_of_tables_and_rows(self):
        for tables in [[], self.tables[:1], self.tables + self.tables[:1], [self.tables[0][:4], self.tables[1]],
                       [self.tables[0], [*self.tables[1], ratios("0 0 0 0 0")]], [self.tables[0], []]]:
            self.assert_fails(Closed(self.found, tables))
        self.assert_fails(Closed(Lot.empty(2), []))
        self.assert_fails(Closed(Lot.empty(2), [[]]))
        self.assert_fails(Closed(Lot.empty(2), [[], [[]]]))

    def test_lengths(self):
        for row in ["0 1 0 0", "0 1 0 0 0 0", ""]:
            self.assert_fails(self.with_row(0, 0, row))

    def test_a_lot_that_is_not_closed(self):
        self.assert_fails(Closed(lot("at 0 ask x", dimension=1), [table("0")]))
        self.assert_fails(Closed(lot("at 0 ask x", "at 1", dimension=1), [table("0 1", "0 0")]))

    def test_copies(self):
        tables = [[list(row) for row in rows] for rows in self.tables]
        certificate = Closed(self.found, tuple([tuple([tuple(row) for row in rows]) for rows in tables]))
        self.assertEqual(certificate.tables, self.tables)
        self.assert_holds(certificate)
        certificate = Closed(self.found, tables)
        tables[0][0].clear()
        tables[1].clear()
        tables.clear()
        self.assertEqual(certificate.tables, self.tables)
        for handed in certificate.weight_lists():
            handed.clear()
        certificate.weight_lists().clear()
        self.assert_holds(certificate)


class SpoiledLots(Checks):

    slope = lot("at 0 ask x", "at 3", dimension=1)

    def made(self, text, variable=0, index=0, found=slope, dimension=1):
        return Spoiled(found, poly(text, dimension), variable, index)

    def test_one_that_holds(self):
        certificate = self.made("1 - 1/9 x^2")
        self.assert_holds(certificate)
        self.assertEqual(certificate.line(), "spoiled: holds")
        self.assertEqual((certificate.polynomials(), certificate.weight_lists()), ([poly("1 - 1/9 x^2", 1)], []))
        self.assertEqual((certificate.variable, certificate.index), (0, 0))
        self.assert_holds(Spoiled(lot("at 0 0", "at 0 0 ask x y"), poly("x"), 1, 1))
        self.assert_holds(Spoiled(lot("at 0 0 0 ask z", dimension=3), poly("1", 3), 2, 0))

    def test_answers_that_are_not_zero(self):
        for text in ["1 + x - 4/9 x^2", "1", "1 - x^2"]:
            self.assert_fails(self.made(text))

    def test_a_product_that_is_not_seen(self):
        self.assert_fails(self.made("0"))
        self.assert_fails(self.made("1 - 1/9 x^2", index=1))
        self.assert_fails(self.made("x^2 - 1/3 x^3"))
        self.assert_fails(Spoiled(lot("at 0 0", "at 0 0 ask x y"), poly("x"), 0, 1))
        self.assert_fails(Spoiled(PAIR, poly("x - y"), 0, 1))

    def test_indexes(self):
        for variable in [-1, 1, 2, 10 ** 20]:
            self.assert_fails(self.made("1 - 1/9 x^2", variable))
        for index in [-1, -2, 2, 10 ** 20]:
            self.assert_fails(self.made("1 - 1/9 x^2", 0, index))
        self.assert_fails(Spoiled(Lot.empty(1), poly("1", 1), 0, 0))

    def test_degrees_15_and_16(self):
        spot = lot("at 1 ask x", dimension=1)
        self.assert_holds(Spoiled(spot, poly("-15 x + x^15", 1), 0, 0))
        self.assert_fails(Spoiled(spot, poly("-16 x + x^16", 1), 0, 0))
        self.assert_fails(Spoiled(spot, poly("x^16", 1), 0, 0))

    def test_dimensions(self):
        for dimension in [2, 3]:
            self.assert_fails(self.made("1", dimension=dimension))
            self.assert_fails(self.made("0", dimension=dimension))


class Staircases(Checks):

    corner = lot("at 5 1", "at 2 1", "at 2 7 ask -3")

    def made(self, *levels, found=corner):
        return Stairs(found, [ratios(level) for level in levels])

    def test_one_that_holds(self):
        certificate = self.made("2 5", "1 7")
        self.assert_holds(certificate)
        self.assertEqual(certificate.line(), "stairs: holds")
        self.assertEqual((certificate.polynomials(), certificate.weight_lists()), ([], []))
        self.assertEqual(certificate.levels, [ratios("2 5"), ratios("1 7")])
        self.assert_holds(self.made("2 5 9", "1 7 1/2 8"))
        self.assert_holds(self.made("-1 1/2", "7", "0", found=lot("at -1 7 0", "at 1/2 7 0", dimension=3)))
        self.assert_holds(self.made("3 1 2", found=lot("at 1", "at 2", "at 3", dimension=1)))
        self.assert_holds(self.made("", "", found=Lot.empty(2)))
        self.assert_holds(self.made("5 6", "7", found=Lot.empty(2)))

    def test_no_lower_set(self):
        for levels in [("5 2", "1 7"), ("2 5", "7 1"), ("5 2", "7 1"), ("9 2 5", "1 7"), ("2 9 5", "1 7")]:
            self.assert_fails(self.made(*levels))
        self.assert_fails(self.made("0 1", "0 1", found=PAIR))

    def test_repetitions(self):
        for levels in [("2 5 2", "1 7"), ("2 5", "1 7 7"), ("2 5", "1 7 8 8"), ("2 2 5", "1 7")]:
            self.assert_fails(self.made(*levels))
        self.assert_fails(Stairs(Lot.empty(1), [[Ratio(1, 2), Ratio(2, 4)]]))

    def test_missing_coordinates(self):
        for levels in [("2", "1 7"), ("2 5", "1"), ("", ""), ("2 5", ""), ("5 2", "7"), ("2 6", "1 7")]:
            self.assert_fails(self.made(*levels))

    def test_numbers_of_levels(self):
        for levels in [(), ("2 5",), ("2 5", "1 7", "0")]:
            self.assert_fails(self.made(*levels))
        self.assert_fails(self.made(found=Lot.empty(2)))
        self.assert_fails(self.made("", found=Lot.empty(2)))

    def test_not_plain(self):
        self.assert_fails(self.made("2 5", "1 7", found=lot("at 5 1", "at 2 1", "at 2 7 ask x")))
        self.assert_fails(self.made("0", found=lot("at 0", "at 0 ask x", dimension=1)))

    def test_copies(self):
        levels = [ratios("2 5"), tuple(ratios("1 7"))]
        certificate = Stairs(self.corner, tuple(levels))
        levels[0].clear()
        self.assertEqual(certificate.levels, [ratios("2 5"), ratios("1 7")])
        self.assert_holds(certificate)


class CrossedPairs(Checks):

    def test_one_that_holds(self):
        certificate = Crossed(PAIR, 0, 0, 1)
        self.assert_holds(certificate)
        self.assertEqual(certificate.line(), "crossed: holds")
        self.assertEqual((certificate.polynomials(), certificate.weight_lists()), ([], []))
        self.assertEqual((certificate.variable, certificate.first, certificate.second), (0, 0, 1))
        self.assert_holds(Crossed(PAIR, 1, 1, 0))
        self.assert_holds(Crossed(lot("at 0 0 1", "at 1 1 1 ask 5", dimension=3), 1, 0, 1))

    def test_a_spot_with_a_question(self):
        found = lot("at 0 0", "at 1 1", "at 1 0")
        for variable in [0, 1]:
            self.assert_fails(Crossed(found, variable, 0, 1))
            self.assert_fails(Crossed(found, variable, 1, 0))
        full = lot("at 0 0", "at 1 1", "at 1 0", "at 0 1")
        self.assert_fails(Crossed(full, 0, 0, 1))

    def test_the_same_coordinate_or_question(self):
        self.assert_fails(Crossed(PAIR, 0, 0, 0))
        self.assert_fails(Crossed(lot("at 0 0", "at 0 1"), 0, 0, 1))
        self.assert_fails(Crossed(lot("at 0 0", "at 0 1"), 1, 0, 1))
        self.assert_fails(Crossed(lot("at 0", "at 1", dimension=1), 0, 0, 1))

    def test_indexes(self):
        for variable, first, second in [(-1, 0, 1), (2, 0, 1), (0, -1, 0), (0, 0, -1), (0, 2, 0), (0, 0, 2), (0, -2, 1),
                                        (10 ** 20, 0, 1), (0, 10 ** 20, 1)]:
            self.assert_fails(Crossed(PAIR, variable, first, second))
        self.assert_fails(Crossed(Lot.empty(2), 0, 0, 0))

    def test_not_plain(self):
        self.assert_fails(Crossed(lot("at 0 0", "at 1 1 ask 1 + x"), 0, 0, 1))
        self.assert_fails(Crossed(lot("at 0 0", "at 1 1", "at 5 5 ask x"), 0, 0, 1))


class Copies(Checks):

    def test_lists_of_polynomials(self):
        cardinals, fitted, weights = polys("1 - x y", "x y"), polys("1", "x", "x"), ratios("1 -1")
        made = [Fits(PAIR, BAND, cardinals), Keeps(KeptDegrees.diagonal, KeptDegrees.quadratic, fitted),
                Gap(PAIR, Gaps.flat, poly("x - y"), weights)]
        for passed in [cardinals, fitted, weights]:
            passed.clear()
        for certificate in made:
            self.assert_holds(certificate)
            certificate.polynomials().clear()
            for handed in certificate.weight_lists():
                handed.clear()
            self.assert_holds(certificate)
        self.assertEqual(made[0].cardinals, polys("1 - x y", "x y"))
        self.assertEqual(made[1].fitted, polys("1", "x", "x"))
        self.assertEqual((made[2].member, made[2].weights), (poly("x - y"), ratios("1 -1")))
        self.assertEqual([certificate.space for certificate in made], [BAND, KeptDegrees.quadratic, Gaps.flat])

    def test_tuples_become_lists(self):
        self.assertEqual(Fits(PAIR, BAND, tuple(polys("1 - x y", "x y"))).cardinals, polys("1 - x y", "x y"))
        self.assertEqual(Keeps(PAIR, BAND, tuple(polys("1"))).fitted, polys("1"))
        self.assertEqual(texts(Gap(PAIR, BAND, None, tuple(ratios("1 2"))).weights), ["1", "2"])


if __name__ == "__main__":
    unittest.main()

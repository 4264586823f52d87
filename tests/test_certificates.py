import unittest

from spotheights.certificates import Certificate, ExactAlways, ExactUpTo, LeastDegree, Member, NonMember
from spotheights.leastspace import least_rows, least_space
from spotheights.lots import Lot
from spotheights.questions import Question
from spotheights.ratios import Ratio
from tests.helpers import Checks, ask, lot, many_lots, poly, ratio, ratios, table, texts

DIAGONAL = lot("at 0 0", "at 1 1", "at 2 2")


class Bases(Checks):

    def test_the_certificate_itself(self):
        for found in [Lot.empty(1), DIAGONAL]:
            certificate = Certificate(found)
            self.assertEqual((certificate.NAME, certificate.VERDICT), ("certificate", True))
            self.assertEqual((certificate.polynomials(), certificate.weight_lists()), ([], []))
            self.assertEqual(certificate.line(), "certificate: holds")
            self.assertIs(certificate.lot, found)
            self.assert_holds(certificate)

    def test_names_and_verdicts(self):
        for kind, name, verdict in [(Member, "member", True), (NonMember, "nonmember", False),
                                    (LeastDegree, "least degree", True), (ExactAlways, "exact always", True),
                                    (ExactUpTo, "exact up to", False)]:
            self.assertEqual((kind.NAME, kind.VERDICT), (name, verdict))
            self.assertEqual(kind.__bases__, (Certificate,))
            self.assertIn("holds", vars(kind))


class Members(Checks):

    rows = [ratios("0 0 0"), ratios("-3 3 0"), ratios("0 0 0")]

    def test_one_that_holds(self):
        certificate = Member(DIAGONAL, poly("3 x + 3 y"), self.rows[:2])
        self.assert_holds(certificate)
        self.assertEqual(certificate.line(), "member: holds")
        self.assertEqual(certificate.polynomials(), [poly("3 x + 3 y")])
        self.assertEqual(certificate.weight_lists(), self.rows[:2])
        self.assert_holds(Member(DIAGONAL, poly("1 + x^2 + 2 x y + y^2"),
                                 table("1 0 0", "0 0 0", "1 -2 1")))
        self.assert_holds(Member(DIAGONAL, poly("7"), [ratios("5 1 1")]))

    def test_zero(self):
        for found in [DIAGONAL, Lot.empty(2)]:
            self.assert_holds(Member(found, poly("0"), []))
            self.assert_fails(Member(found, poly("0"), [[Ratio(0)] * len(found)]))
        self.assert_fails(Member(Lot.empty(2), poly("1"), [[]]))

    def test_any_rows_that_do(self):
        self.assert_holds(Member(DIAGONAL, poly("3 x + 3 y"), [ratios("1 -2 1"), ratios("-3/2 0 3/2")]))
        self.assert_holds(Member(lot("at 1 0", "at 0 0 ask x"), poly("x"), [ratios("0 5"), ratios("0 1")]))

    def test_least_rows(self):
        for found in many_lots():
            for member, row in zip(least_space(found), least_rows(found)):
                rows = [[Ratio(0)] * len(found)] * member.degree + [row]
                self.assert_holds(Member(found, member, rows))
                self.assert_fails(Member(found, member * 2, rows))

    def test_wrong_counts_of_rows(self):
        for rows in [[], self.rows[:1], self.rows]:
            self.assert_fails(Member(DIAGONAL, poly("3 x + 3 y"), rows))

    def test_wrong_rows(self):
        for rows in [table("0 0 0", "-3 0 3"), table("0 0 0", "3 -3 0"), table("0 0 0", "-3 3 1"),
                     table("1 0 0", "-3 3 0"), table("0 0 0", "0 0 0")]:
            self.assert_fails(Member(DIAGONAL, poly("3 x + 3 y"), rows))
        # The part of degree 1 is right, but the sum of the answers of the monomial 1 is not zero.
        self.assert_fails(Member(DIAGONAL, poly("3 x + 3 y"), table("0 0 0", "-2 3 0")))
        self.assert_fails(Member(lot("at 0", "at 0 ask x", dimension=1), poly("x", 1), table("0 0", "1 1")))
        self.assert_holds(Member(lot("at 0", "at 0 ask x", dimension=1), poly("x", 1), table("0 0", "0 1")))

    def test_lengths_and_dimensions(self):
        for rows in [table("0 0", "-3 3"), [ratios("0 0 0"), ratios("-3 3")], [[], ratios("-3 3 0")],
                     table("0 0 0 0", "-3 3 0 0"), [ratios("0 0 0 0"), ratios("-3 3 0")]]:
            self.assert_fails(Member(DIAGONAL, poly("3 x + 3 y"), rows))
        for dimension in [1, 3]:
            self.assert_fails(Member(DIAGONAL, poly("0", dimension), []))
            self.assert_fails(Member(DIAGONAL, poly("3 x", dimension), self.rows[:2]))

    def test_degree_16(self):
        rows = [[Ratio(0)] * 3] * 17
        self.assert_fails(Member(DIAGONAL, poly("x^16"), rows))
        self.assert_fails(Member(DIAGONAL, poly("x^16"), [[Ratio(1)] * 3] * 17))
        found = lot(*[f"at {k}/997 {k * k}/991 -{k}/983" for k in range(1, 9)], dimension=3)
        self.assert_fails(Member(found, poly("x^8 y^8 + z^16", 3), [[Ratio(0)] * 8] * 17))


class NonMembers(Checks):

    def test_one_that_holds(self):
        certificate = NonMember(DIAGONAL, poly("x"), poly("x - y"))
        self.assert_holds(certificate)
        self.assertEqual(certificate.line(), "nonmember: holds")
        self.assertEqual(certificate.polynomials(), [poly("x"), poly("x - y")])
        self.assertEqual(certificate.weight_lists(), [])
        self.assert_holds(NonMember(DIAGONAL, poly("1 + x^3"), poly("2 x - 3 x^2 + x^3")))
        self.assert_holds(NonMember(Lot.empty(2), poly("1 + x"), poly("5 + x")))
        self.assert_holds(NonMember(DIAGONAL, poly("x^16"), poly("x^16 - x^15 y")))

    def test_answers_that_are_not_zero(self):
        self.assert_fails(NonMember(DIAGONAL, poly("x"), poly("x")))
        self.assert_fails(NonMember(lot("at 0 0", "at 1 1 ask x"), poly("x"), poly("x - y")))

    def test_a_top_part_without_a_pairing(self):
        self.assert_fails(NonMember(DIAGONAL, poly("x + y"), poly("x - y")))
        self.assert_fails(NonMember(DIAGONAL, poly("x"), poly("x - y + x^2 - x y")))
        self.assert_fails(NonMember(DIAGONAL, poly("0"), poly("x - y")))
        self.assert_fails(NonMember(DIAGONAL, poly("x"), poly("0")))

    def test_dimensions(self):
        for dimension in [1, 3]:
            self.assert_fails(NonMember(DIAGONAL, poly("x", dimension), poly("x - y")))
            self.assert_fails(NonMember(DIAGONAL, poly("x"), poly("0", dimension)))
            self.assert_fails(NonMember(DIAGONAL, poly("x", dimension), poly("x", dimension)))
            self.assert_fails(NonMember(Lot.empty(2), poly("x"), poly("x", dimension)))


class LeastDegrees(Checks):

    def test_one_that_holds(self):
        certificate = LeastDegree(DIAGONAL, ratios("1 2 3"), poly("1 + x"), ratios("-1 1 0"))
        self.assert_holds(certificate)
        self.assertEqual(certificate.line(), "least degree: holds")
        self.assertEqual(certificate.polynomials(), [poly("1 + x")])
        self.assertEqual(certificate.weight_lists(), [ratios("1 2 3"), ratios("-1 1 0")])
        self.assert_holds(LeastDegree(DIAGONAL, ratios("5 5 5"), poly("5"), ratios("0 0 1/7")))
        self.assert_holds(LeastDegree(DIAGONAL, ratios("0 1 4"), poly("x y"), ratios("1 -2 1")))

    def test_zero(self):
        for weights in ["0 0 0", "1 2 3"]:
            self.assert_holds(LeastDegree(DIAGONAL, ratios("0 0 0"), poly("0"), ratios(weights)))
        self.assert_holds(LeastDegree(Lot.empty(2), [], poly("0"), []))
        self.assert_fails(LeastDegree(Lot.empty(2), [], poly("1"), []))

    def test_other_answers(self):
        self.assert_fails(LeastDegree(DIAGONAL, ratios("1 2 4"), poly("1 + x"), ratios("-1 1 0")))
        self.assert_fails(LeastDegree(DIAGONAL, ratios("1 2 3"), poly("0"), ratios("-1 1 0")))
        self.assert_fails(LeastDegree(DIAGONAL, ratios("0 0 0"), poly("x - y"), ratios("-1 1 0")))

    def test_weights_that_do_not_see_the_answers(self):
        self.assert_fails(LeastDegree(DIAGONAL, ratios("1 2 3"), poly("1 + x"), ratios("0 0 0")))
        self.assert_fails(LeastDegree(DIAGONAL, ratios("1 2 3"), poly("1 + x"), ratios("1 -2 1")))

    def test_weights_that_see_lower_degrees(self):
        self.assert_fails(LeastDegree(DIAGONAL, ratios("1 2 3"), poly("1 + x"), ratios("0 1 0")))
        self.assert_fails(LeastDegree(DIAGONAL, ratios("0 1 4"), poly("x y"), ratios("-1 1 0")))
        # The same answers have a polynomial of degree 1, so no weights do.
        self.assert_fails(LeastDegree(DIAGONAL, ratios("1 2 3"), poly("1 + x + x^2 - x y"), ratios("-1 1 0")))

    def test_lengths_and_dimensions(self):
        for answers, weights in [("1 2", "-1 1 0"), ("1 2 3 4", "-1 1 0"), ("1 2 3", "-1 1"), ("1 2 3", "-1 1 0 0"),
                                 ("", ""), ("1 2", "-1 1")]:
            self.assert_fails(LeastDegree(DIAGONAL, ratios(answers), poly("1 + x"), ratios(weights)))
        self.assert_fails(LeastDegree(DIAGONAL, ratios("0 0 0"), poly("0"), ratios("0 0")))
        for dimension in [1, 3]:
            self.assert_fails(LeastDegree(DIAGONAL, ratios("1 2 3"), poly("1 + x", dimension), ratios("-1 1 0")))

    def test_degree_16(self):
        self.assert_fails(LeastDegree(lot("at 1 1"), ratios("1"), poly("x^16"), ratios("1")))
        self.assert_fails(LeastDegree(DIAGONAL, ratios("0 0 0"), poly("x^16 - y^16"), ratios("1 -2 1")))


class AlwaysExact(Checks):

    mixed = lot("at 0 0", "at 1 1", "at 1 1 ask x", "at 2 0 ask y")

    def test_one_that_holds(self):
        certificate = ExactAlways(self.mixed, ask("at 1 1 ask 2 - 1/3 x"), ratios("0 2 -1/3 0"))
        self.assert_holds(certificate)
        self.assertEqual(certificate.line(), "exact always: holds")
        self.assertEqual(certificate.polynomials(), [])
        self.assertEqual(certificate.weight_lists(), [ratios("0 2 -1/3 0")])

    def test_operators_that_do_not_add_up(self):
        for weights in ["0 2 1/3 0", "0 1 -1/3 0", "0 0 0 0"]:
            self.assert_fails(ExactAlways(self.mixed, ask("at 1 1 ask 2 - 1/3 x"), ratios(weights)))

    def test_weights_at_other_spots(self):
        for weights in ["1 2 -1/3 0", "0 2 -1/3 1"]:
            self.assert_fails(ExactAlways(self.mixed, ask("at 1 1 ask 2 - 1/3 x"), ratios(weights)))

    def test_a_question_elsewhere(self):
        self.assert_fails(ExactAlways(self.mixed, ask("at 3 3"), ratios("0 0 0 0")))
        self.assert_fails(ExactAlways(self.mixed, ask("at 3 3"), ratios("0 1 0 0")))
        self.assert_fails(ExactAlways(Lot.empty(2), ask("at 3 3"), []))

    def test_lengths_and_dimensions(self):
        for weights in ["0 2 -1/3", "0 2 -1/3 0 0", ""]:
            self.assert_fails(ExactAlways(self.mixed, ask("at 1 1 ask 2 - 1/3 x"), ratios(weights)))
        self.assert_fails(ExactAlways(self.mixed, ask("at 1", 1), ratios("0 1 0 0")))
        self.assert_fails(ExactAlways(self.mixed, ask("at 1 1 1", 3), ratios("0 1 0 0")))
        self.assert_fails(ExactAlways(Lot.empty(2), ask("at 1", 1), []))


class ExactUpToDegrees(Checks):

    question = ask("at 1/2 1/2")

    def made(self, weights="3/8 3/4 -1/8", degree=2, miss="2 x - 3 x^2 + x^3", question=question):
        return ExactUpTo(DIAGONAL, question, ratios(weights), degree, poly(miss))

    def test_one_that_holds(self):
        certificate = self.made()
        self.assert_holds(certificate)
        self.assertEqual(certificate.line(), "exact up to: holds")
        self.assertEqual(certificate.polynomials(), [poly("2 x - 3 x^2 + x^3")])
        self.assertEqual(certificate.weight_lists(), [ratios("3/8 3/4 -1/8")])
        self.assert_holds(self.made("0 1 0", 0, "x - y", ask("at 1 0")))
        self.assert_holds(ExactUpTo(Lot.empty(1), ask("at 2", 1), [], -1, poly("7", 1)))
        self.assert_holds(ExactUpTo(Lot.empty(1), ask("at 2 ask x^4", 1), [], 3, poly("x^4", 1)))

    def test_weights_that_are_not_exact(self):
        for weights in ["3/8 3/4 1/8", "1/2 1/2 0", "0 0 0"]:
            self.assert_fails(self.made(weights))

    def test_wrong_degrees(self):
        for degree in [-1, 0, 1, 3, 15]:
            self.assert_fails(self.made(degree=degree))
        self.assert_fails(self.made("0 0 0", 0, "x - y", ask("at 1 0")))
        self.assert_fails(self.made("0 1 0", 1, "x^2 - y^2", ask("at 1 0")))
        self.assert_fails(self.made("0 1 0", 0, "x^2 - y^2", ask("at 1 0")))

    def test_degrees_out_of_bounds(self):
        for degree in [-2, 16, 17, -10 ** 20, 10 ** 20]:
            self.assert_fails(self.made(degree=degree))
            self.assert_fails(ExactUpTo(Lot.empty(1), ask("at 0", 1), [], degree, poly("x^16", 1)))
        self.assert_fails(ExactUpTo(Lot.empty(1), ask("at 0", 1), [], -2, poly("0", 1)))
        # So exact only by chance: the question and its weights are the same, but then there is no miss.
        self.assert_fails(ExactUpTo(DIAGONAL, ask("at 0 0"), ratios("1 0 0"), 15, poly("x^16 - x^15 y")))

    def test_misses(self):
        for miss in ["0", "2 x - 3 x^2", "x^3", "-x^2 y + x y^2", "x - y"]:
            self.assert_fails(self.made(miss=miss))
        self.assert_fails(self.made("0 1 0", 0, "x + y", ask("at 1 0")))
        self.assert_fails(self.made("0 1 0", 0, "1", ask("at 1 0")))
        self.assert_fails(self.made("0 1 0", 0, "x - y", ask("at 3 3")))
        self.assert_fails(ExactUpTo(Lot.empty(1), ask("at 2", 1), [], -1, poly("0", 1)))

    def test_lengths_and_dimensions(self):
        for weights in ["3/8 3/4", "3/8 3/4 -1/8 0", ""]:
            self.assert_fails(self.made(weights))
        self.assert_fails(self.made(question=ask("at 1/2", 1)))
        self.assert_fails(self.made(question=ask("at 1/2 1/2 0", 3)))
        for dimension in [1, 3]:
            self.assert_fails(ExactUpTo(DIAGONAL, self.question, ratios("3/8 3/4 -1/8"), 2,
                                        poly("2 x - 3 x^2 + x^3", dimension)))

    def test_long_coordinates_at_the_bounds(self):
        found = lot(*[f"at {k}/997 {k * k}/991 -{k}/983" for k in range(1, 9)], dimension=3)
        question = Question(ratios("1/999 -999 999/998"), poly("1 + x y z", 3))
        self.assert_fails(ExactUpTo(found, question, [Ratio(0)] * 8, 15, poly("x^16", 3)))
        zero = ask("at 0 0 0 ask z^4", 3)
        self.assert_fails(ExactUpTo(Lot.empty(3), zero, [], 15, poly("z^16", 3)))


class Copies(Checks):

    def test_attributes_are_what_was_passed(self):
        rows = [ratios("0 0 0"), tuple(ratios("-3 3 0"))]
        for given in [rows, tuple(rows)]:
            certificate = Member(DIAGONAL, poly("3 x + 3 y"), given)
            self.assertEqual(certificate.rows, table("0 0 0", "-3 3 0"))
            self.assertEqual((certificate.lot, certificate.polynomial), (DIAGONAL, poly("3 x + 3 y")))
        certificate = NonMember(DIAGONAL, poly("x"), poly("x - y"))
        self.assertEqual((certificate.polynomial, certificate.obstruction), (poly("x"), poly("x - y")))
        certificate = LeastDegree(DIAGONAL, tuple(ratios("1 2 3")), poly("1 + x"), tuple(ratios("-1 1 0")))
        self.assertEqual((certificate.answers, certificate.weights), (ratios("1 2 3"), ratios("-1 1 0")))
        self.assertEqual(certificate.polynomial, poly("1 + x"))
        self.assert_holds(certificate)
        certificate = ExactAlways(DIAGONAL, ask("at 0 0"), tuple(ratios("1 0 0")))
        self.assertEqual((certificate.question, certificate.weights), (ask("at 0 0"), ratios("1 0 0")))
        self.assert_holds(certificate)
        certificate = ExactUpTo(DIAGONAL, ask("at 1 0"), tuple(ratios("0 1 0")), 0, poly("x - y"))
        self.assertEqual((certificate.question, certificate.weights), (ask("at 1 0"), ratios("0 1 0")))
        self.assertEqual((certificate.exact_degree, certificate.miss), (0, poly("x - y")))
        self.assert_holds(certificate)

    def test_wrong_claims_are_kept_as_well(self):
        certificate = Member(Lot.empty(3), poly("x", 1), [[], ratios("1 2"), []])
        self.assertEqual(certificate.rows, [[], ratios("1 2"), []])
        self.assertEqual(certificate.weight_lists(), [[], ratios("1 2"), []])
        self.assertEqual(certificate.polynomials(), [poly("x", 1)])
        self.assert_fails(certificate)
        certificate = ExactUpTo(DIAGONAL, ask("at 0", 1), ratios("1"), -99, poly("0", 3))
        self.assertEqual((certificate.exact_degree, certificate.weight_lists()), (-99, [ratios("1")]))
        self.assert_fails(certificate)

    def test_later_changes_have_no_effect(self):
        rows, weights, answers = table("0 0 0", "-3 3 0"), ratios("-1 1 0"), ratios("1 2 3")
        exact, seen = ratios("1 0 0"), ratios("0 1 0")
        made = [Member(DIAGONAL, poly("3 x + 3 y"), rows), LeastDegree(DIAGONAL, answers, poly("1 + x"), weights),
                ExactAlways(DIAGONAL, ask("at 0 0"), exact), ExactUpTo(DIAGONAL, ask("at 1 0"), seen, 0, poly("x - y"))]
        for passed in [rows[1], rows, weights, answers, exact, seen]:
            passed.clear()
        for certificate in made:
            self.assert_holds(certificate)
            for handed in certificate.weight_lists():
                handed.clear()
            certificate.weight_lists().clear()
            certificate.polynomials().clear()
            self.assert_holds(certificate)
            self.assertTrue(all([len(handed) == 3 for handed in certificate.weight_lists()]))

    def test_sixty_digits(self):
        number = ratio(f"{10 ** 59 + 7}/{10 ** 58 + 11}")
        self.assert_holds(LeastDegree(lot("at 0 0"), [number], poly("1") * number, [number]))
        self.assert_fails(LeastDegree(lot("at 0 0"), [number], poly("1") * number * number, [number]))
        self.assertEqual(texts(LeastDegree(DIAGONAL, [number], poly("x"), []).answers), texts([number]))


if __name__ == "__main__":
    unittest.main()

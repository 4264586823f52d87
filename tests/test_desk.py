import unittest

from spotheights.certificates import NonMember
from spotheights.closure import judge_closure
from spotheights.desk import Desk
from spotheights.errors import BadLine, BadName, BadNumber, BadPolynomial, BadQuestion, BadText, Dependent, NotClosed
from spotheights.errors import NothingToRedo, NothingToUndo, NotPlain, NotTold, SpotError, TooLarge, TooWide
from spotheights.errors import UnknownName, UsedName, WrongDimension
from spotheights.ideals import Ideal
from spotheights.leastspace import least_space
from spotheights.lowersets import fitting_sets
from spotheights.newton import newton_basis
from spotheights.polytext import read_polynomial
from spotheights.ratios import Ratio
from spotheights.survey import Survey
from spotheights.verdicts import Crossed, Spoiled
from spotheights.weights import exact_degree, weights_for
from tests.helpers import Checks, Drawn, all_orders, ask, many_lots, poly, ratios, texts
from tests.test_survey import GOOD_NAMES, history, state

CORNER = ["put a at 0 0", "put b at 1 0", "put cdefghij at 0 1"]
VARIABLES = "xyz"


def desk(*lines, dimension=2):
    """A desk that has run the lines."""
    found = Desk(dimension)
    found.run(list(lines))
    return found


def told_desk():
    return desk(*CORNER, "tell a 3", "tell b -1/2", "tell cdefghij 0")


def desks():
    """Desks with the questions of lots of all kinds, some of the answers told."""
    drawn = Drawn(273)
    found = []
    for one in many_lots():
        new = Desk(one.dimension)
        for at, question in enumerate(one):
            new.survey.put(f"q{at}", question, drawn.ratio() if drawn.integer(0, 2) else None)
        found.append(new)
    return found


class Refusals(Checks):

    def assert_refused(self, found, lines, code, cause, number=None):
        before = history(found.survey)
        survey = found.survey
        with self.assertRaises(BadLine) as caught:
            found.run(lines)
        number = len(lines) if number is None else number
        error = caught.exception
        self.assertEqual((error.text, error.number, error.code), (lines[number - 1], number, code))
        self.assertIsInstance(error.__cause__, cause)
        self.assertIsInstance(error.__cause__, SpotError)
        self.assertEqual(history(found.survey), before)
        self.assertIs(found.survey, survey)
        return error.__cause__


class Running(Refusals):

    def test_examples(self):
        lines = ["put a at 0 0", "put b at 1 1", "tell a 3", "tell b 4", "fit", "counts", "normal variables xy"]
        self.assertEqual(Desk(2).run(lines), ["put a: degree 0", "put b: degree 1", "tell a: 3", "tell b: 4",
                                              "3 + 1/2 x + 1/2 y", "1 1", "1, y"])
        with self.assertRaises(BadLine):
            Desk(2).run(["put a at 0 0", "put a at 1 1"])

    def test_new_desks(self):
        for dimension in [1, 2, 3]:
            found = Desk(dimension)
            self.assertEqual((found.dimension, found.survey.dimension), (dimension, dimension))
            self.assertIsInstance(found.survey, Survey)
            self.assertEqual((len(found.survey), found.run([])), (0, []))
            with self.assertRaises(NothingToUndo):
                found.survey.undo()
        for dimension in [0, 4]:
            with self.assertRaises(WrongDimension):
                Desk(dimension)

    def test_the_survey_stays_the_same_object(self):
        found = Desk(2)
        survey = found.survey
        found.run(CORNER)
        self.assertEqual(list(survey), ["a", "b", "cdefghij"])
        survey.put("z", ask("at 5 5"))
        self.assertEqual(found.run(["lot"])[-1], "z        at 5 5")
        with self.assertRaises(BadLine):
            found.run(["take z", "oh"])
        self.assertIs(found.survey, survey)
        self.assertEqual(found.run(["undo", "lot"])[1:], ["a        at 0 0", "b        at 1 0", "cdefghij at 0 1"])

    def test_a_refused_line_takes_everything_back(self):
        found = desk(*CORNER, "tell a 3", "undo", "undo")
        before = history(found.survey)
        self.assertEqual((len(before[0]), len(before[2])), (2, 2))
        for lines in [
            ["take a", "take a"], ["undo", "undo", "undo"], ["redo", "redo", "redo"], ["put d at 5 5", "undo", "nothing"],
            ["shift 1 1", "lot", "tell b 4", "fit"], ["redo", "take b", ""], ["tell a 1", "redo"], ["redo", "undo", " "],
        ]:
            self.assert_refused(found, lines, history_code(lines), SpotError)
        self.assertEqual(history(found.survey), before)
        self.assertEqual(found.run(["redo", "redo"]), ["redo", "redo"])
        self.assertEqual(found.run(["lot"]), ["a        at 0 0 = 3", "b        at 1 0", "cdefghij at 0 1"])

    def test_the_number_of_the_line(self):
        found = Desk(2)
        self.assert_refused(found, ["lot", "put a at 0 0", "take b", "take c", "oh"], "unknown", UnknownName, number=3)
        self.assert_refused(found, ["oh", "oh"], "text", SpotError, number=1)
        self.assertEqual(found.run(["lot"]), ["empty"])

    def test_lines_are_unchanged(self):
        lines = list(CORNER)
        found = Desk(2)
        written = found.run(lines)
        self.assertEqual(lines, CORNER)
        lines.clear()
        written.clear()
        self.assertEqual(found.run(["counts"]), ["1 2"])
        self.assertEqual(Desk(2).run(tuple(CORNER)), ["put a: degree 0", "put b: degree 1", "put cdefghij: degree 1"])

    def test_each_line_is_one_deed(self):
        found = Desk(2)
        lines = ["put a at 0 0", "tell a 4", "forget a", "shift 1 1", "tell a 4", "take a"]
        states = [state(found.survey)]
        for line in lines:
            found.run([line])
            states.append(state(found.survey))
        found.run(["lot", "script", "space", "counts", "fit", "newton", "belongs x", "weights at 0 0", "closed",
                   "normal degree xy", "basis degree xy", "sets", "stairs"])
        for wanted in states[-2::-1]:
            self.assertEqual(found.run(["undo"]), ["undo"])
            self.assertEqual(state(found.survey), wanted)
        self.assert_refused(found, ["undo"], "undo", NothingToUndo)
        for wanted in states[1:]:
            self.assertEqual(found.run(["redo"]), ["redo"])
            self.assertEqual(state(found.survey), wanted)
        self.assert_refused(found, ["redo"], "redo", NothingToRedo)


def history_code(lines):
    return {"take a": "unknown", "undo": "undo", "redo": "redo", "fit": "untold"}.get(lines[-1], "text")


class Codes(Refusals):

    def test_texts(self):
        found = told_desk()
        for line in [
            "", " ", "  ", " lot", "lot ", "lot  ", "fit\n", "\n", "oh", "LOT", "Lot", "lots", "put", "take", "tell",
            "forget", "shift", "belongs", "weights", "normal", "basis", "lot a", "script 1", "space x", "counts 1",
            "fit a", "newton a", "closed a", "sets a", "stairs a", "undo 1", "redo a", "take a b", "take  a", "take ",
            "forget a b", "forget ", "put  at 5 5", "tell  1", "shift 1 ", "belongs ", "weights ", "normal ", "undo ",
            "tell a", "tell a 1 2", "tell a  1", "tell  a 1", "tell a x", "tell a 6/4", "tell a +1", "tell a 1\n",
            "tell a " + "1" * 61, "tell a 1/" + "1" * 61, "tell a -0", "tell 1", "put d", "put d at", "put d at 0",
            "put d at 0 0 0", "put d at 0 0 ask", "put d at 0 0 ask 1", "put d at 0 0 ask 0", "put d at 0 0 ask z",
            "put d at 0 0 ask x^5", "put d at 1000 0", "put d at 0 1/1000", "put d at 0 0 ask 10000", "put d  at 0 0",
            "put d at  0 0", "put d at 0 0 ", "put at 0 0", "put d 0 0", "put d at 0 0\n", "put D at 0 0 0",
            "put a at 0", "put toolongname at x y", "shift 1", "shift 1 2 3", "shift 1 1000", "shift 1/1000 1",
            "shift a 1", "shift 1 2/4", "shift 1  2", "shift 0 -1000", "shift 0 1/1234", "belongs 1 + y + x",
            "belongs x^9", "belongs x^17", "belongs x^8 y", "belongs z", "belongs 2 3", "belongs x + ", "belongs 1.5",
            "weights at 0", "weights 0 0", "weights at 0 0 0", "weights at 0 0 ask x^5", "weights a", "normal xy",
            "normal degree", "normal degree x", "normal degree xyz", "normal degree xx", "normal degree xy ",
            "normal variables", "normal lex xy", "normal degree x y", "basis degree x", "basis variables zxy",
            "basis Degree xy", "basis xy degree", "normal variables yz", "tell a \u0661", "shift 1 \u0661",
        ]:
            with self.subTest(repr(line)):
                self.assert_refused(found, [line], "text", SpotError)
                self.assert_refused(found, ["tell a 9", "shift 1 1", line], "text", SpotError)

    def test_causes_of_texts(self):
        found = told_desk()
        for line, cause, text in [
            ("tell a 6/4", BadNumber, "6/4"), ("shift 1 x", BadNumber, "x"), ("shift 1000 1", BadNumber, "1000"),
            ("put d at 0", BadQuestion, "at 0"), ("weights at 0 0 ask 1", BadQuestion, "at 0 0 ask 1"),
            ("belongs y + x", BadPolynomial, "y + x"), ("belongs x^9", BadPolynomial, "x^9"),
            ("normal degree zz", BadText, "degree zz"), ("normal degree x", BadText, "degree x"),
        ]:
            error = self.assert_refused(found, [line], "text", cause)
            self.assertEqual(error.text, text)

    def test_one_for_each_error(self):
        found = told_desk()
        plain = ["undo", "undo", "undo"]
        for lines, code, cause in [
            (["put D at 5 5"], "name", BadName), (["put toolongname at 5 5"], "name", BadName),
            (["put 1 at 5 5"], "name", BadName), (["put a\tb at 5 5"], "name", BadName),
            (["put \u00e4 at 5 5"], "name", BadName), (["put 1 at 0 0"], "name", BadName),
            (["put a at 5 5"], "used", UsedName), (["put a at 0 0"], "used", UsedName),
            (["take d"], "unknown", UnknownName), (["tell d 1"], "unknown", UnknownName),
            (["forget d"], "unknown", UnknownName), (["take D"], "unknown", UnknownName),
            (["tell 1 1"], "unknown", UnknownName), (["forget a\n"], "unknown", UnknownName),
            (["put d at 0 0 ask 7"], "dependent", Dependent), (["put d at 5 5 ask x^2 y^2"], "wide", TooWide),
            (["weights at 5 5 ask x^2 y^2"], "wide", TooWide), (["shift 999 0"], "large", TooLarge),
            (["shift 0 1/2", "shift 0 1/999"], "large", TooLarge), (["forget b", "fit"], "untold", NotTold),
            ([*plain, "fit"], "untold", NotTold), (["undo"] * 7, "undo", NothingToUndo), (["redo"], "redo", NothingToRedo),
            (["put d at 5 5 ask x", "normal degree xy"], "closed", NotClosed),
            (["put d at 5 5 ask x", "basis variables yx"], "closed", NotClosed),
            (["put d at 5 5 ask x", "stairs"], "plain", NotPlain),
        ]:
            with self.subTest(str(lines)):
                self.assert_refused(found, lines, code, cause)

    def test_the_causes(self):
        found = told_desk()
        error = self.assert_refused(found, ["put d at 1 0 ask -2"], "dependent", Dependent)
        self.assertEqual(error.weights, ratios("0 2 0 1"))
        error = self.assert_refused(found, ["forget b", "forget cdefghij", "fit"], "untold", NotTold)
        self.assertEqual(error.name, "b")
        error = self.assert_refused(found, ["put d at 5 5 ask x y", "basis degree xy"], "closed", NotClosed)
        self.assertIsInstance(error.certificate, Spoiled)
        self.assert_holds(error.certificate)

    def test_a_line_is_read_before_it_is_done(self):
        found = told_desk()
        for line in ["put D at 0", "put a at 0", "tell D x", "tell d 1/0", "put toolongname at 0 0 ask 1"]:
            self.assert_refused(found, [line], "text", SpotError)

    def test_the_names_of_bad_line(self):
        self.assertTrue(issubclass(BadLine, BadText))


class Deeds(unittest.TestCase):

    def test_put_and_take(self):
        for lines, wanted, dimension in [
            (["put a at 0 0 ask x y", "put b at 1 1", "take a", "take b"],
             ["put a: degree 2", "put b: degree 0", "take a: degree 2", "take b: degree 0"], 2),
            (["put a at 0", "put b at 1", "put c at 2", "take a"],
             ["put a: degree 0", "put b: degree 1", "put c: degree 2", "take a: degree 2"], 1),
            (["put a at 0 0", "put b at 1 1", "put c at 2 2", "put d at 0 1", "take b"],
             ["put a: degree 0", "put b: degree 1", "put c: degree 2", "put d: degree 1", "take b: degree 2"], 2),
            (["put a at 0 0 0 ask x^4", "put b at 0 0 0"], ["put a: degree 4", "put b: degree 0"], 3),
        ]:
            with self.subTest(str(lines)):
                self.assertEqual(Desk(dimension).run(lines), wanted)

    def test_degrees(self):
        for found in desks():
            survey = found.survey
            for name in list(survey):
                before = [member.degree for member in least_space(survey.as_lot())]
                written = found.run([f"take {name}"])
                after = [member.degree for member in least_space(survey.as_lot())]
                for degree in after:
                    before.remove(degree)
                self.assertEqual(written, [f"take {name}: degree {before[0]}"])
                question = found.run(["undo", "script"])
                line = [text for text in question if text.startswith(f"put {name} ")][0]
                # Whichever question comes last, the space grows by the degree by which it becomes smaller without it.
                self.assertEqual(found.run([f"take {name}", line])[1], f"put {name}: degree {before[0]}")
                found.run(["undo", "undo"])

    def test_tell_and_forget(self):
        found = desk(*CORNER)
        self.assertEqual(found.run(["tell a -7/3", "tell b 0", "forget b", "forget b", "tell a 12"]),
                         ["tell a: -7/3", "tell b: 0", "forget b", "forget b", "tell a: 12"])
        self.assertEqual(found.survey.told(), [Ratio(12), None, None])
        number = "9" * 60
        self.assertEqual(found.run([f"tell a -{number}/8"]), [f"tell a: -{number}/8"])

    def test_shift(self):
        found = desk(*CORNER)
        self.assertEqual(found.run(["shift -1/2 998", "lot"]),
                         ["shift", "a        at -1/2 998", "b        at 1/2 998", "cdefghij at -1/2 999"])
        self.assertEqual(desk("shift 7", dimension=1).run(["undo", "redo"]), ["undo", "redo"])
        self.assertEqual(Desk(3).run(["put a at 0 0 0", "shift 1 2 -999/998", "lot"])[2], "a        at 1 2 -999/998")

    def test_good_names(self):
        found = Desk(1)
        written = found.run([f"put {name} at {at}" for at, name in enumerate(GOOD_NAMES)])
        self.assertEqual(written, [f"put {name}: degree {at}" for at, name in enumerate(GOOD_NAMES)])
        self.assertEqual(found.run(["lot"])[3], "abcdefgh at 3")

    def test_a_width_of_exactly_8(self):
        found = Desk(3)
        self.assertEqual(found.run(["put a at 0 0 0 ask x y z", "counts"]), ["put a: degree 3", "0 0 0 1"])
        with self.assertRaises(BadLine) as caught:
            found.run(["put b at 1 0 0"])
        self.assertEqual(caught.exception.code, "wide")
        self.assertEqual(found.run(["put b at 0 0 0 ask y z", "take a"]), ["put b: degree 2", "take a: degree 3"])


class Answers(Checks):

    def test_without_questions(self):
        for dimension in [1, 2, 3]:
            order = VARIABLES[:dimension]
            at = " ".join(["at"] + ["0"] * dimension)
            for line, wanted in [
                ("lot", ["empty"]), ("script", []), ("space", ["empty"]), ("counts", ["empty"]), ("fit", ["0"]),
                ("newton", ["empty"]), ("belongs 0", ["yes"]), ("belongs 1", ["no: 1"]), (f"weights {at}", ["degree -1 weights"]),
                (f"weights {at} ask x", ["degree 0 weights"]), ("closed", ["yes"]), (f"normal degree {order}", ["empty"]),
                (f"normal variables {order}", ["empty"]), (f"basis degree {order}", ["1"]),
                (f"basis variables {order}", ["1"]), ("sets", ["empty"]), ("stairs", ["yes"]),
            ]:
                with self.subTest(line):
                    self.assertEqual(Desk(dimension).run([line]), wanted)

    def test_by_hand(self):
        found = told_desk()
        for line, wanted in [
            ("lot", ["a        at 0 0 = 3", "b        at 1 0 = -1/2", "cdefghij at 0 1 = 0"]),
            ("script", ["put a at 0 0", "tell a 3", "put b at 1 0", "tell b -1/2", "put cdefghij at 0 1", "tell cdefghij 0"]),
            ("space", ["1", "x", "y"]), ("counts", ["1 2"]), ("fit", ["3 - 7/2 x - 3 y"]),
            ("newton", ["a        1", "b        x", "cdefghij y"]), ("belongs 1 - 5/3 y", ["yes"]),
            ("weights at 1/2 1/2", ["degree 1 weights 0 1/2 1/2"]), ("weights at 1 0", ["degree all weights 0 1 0"]),
            ("weights at 0 0 ask x", ["degree 1 weights -1 1 0"]), ("closed", ["yes"]), ("normal degree xy", ["1, x, y"]),
            ("normal degree yx", ["1, y, x"]), ("normal variables xy", ["1, y, x"]),
            ("basis degree xy", ["-x + x^2", "x y", "-y + y^2"]), ("basis degree yx", ["-y + y^2", "x y", "-x + x^2"]),
            ("sets", ["1, x, y"]), ("stairs", ["yes"]),
        ]:
            with self.subTest(line):
                self.assertEqual(found.run([line]), wanted)

    def test_other_lots_by_hand(self):
        for lines, line, wanted, dimension in [
            (["put a at 0 0", "put b at 1 1", "put c at 2 2"], "sets", ["1, x, x^2", "1, y, y^2"], 2),
            (["put a at 0 0", "put b at 1 1", "put c at 2 2"], "space", ["1", "x + y", "x^2 + 2 x y + y^2"], 2),
            (["put a at 0 0 ask x"], "sets", ["none"], 2), (["put a at 0 0 ask x y"], "counts", ["0 0 1"], 2),
            (["put a at 0 0", "put b at 1 1", "put c at 2 2"], "counts", ["1 1 1"], 2),
            (["put a at 3 4"], "sets", ["1"], 2), (["put a at 3 4"], "normal degree xy", ["1"], 2),
            (["put a at 2 3 4"], "basis variables yzx", ["-2 + x", "-4 + z", "-3 + y"], 3),
            (["put a at 0 0 0", "put b at 0 1 2"], "sets", ["1, y", "1, z"], 3),
            (["put a at 0 ask x", "put b at 1", "put c at 0"], "newton",
             ["a        x", "b        1", "c        1 - x^2"], 1),
            (["put a at 3 ask -2"], "lot", ["a        at 3 ask -2"], 1),
        ]:
            with self.subTest(line):
                self.assertEqual(desk(*lines, dimension=dimension).run([line]), wanted)

    def test_lots_and_scripts(self):
        for found in desks():
            survey = found.survey
            lines = []
            script = []
            for name in survey:
                told = "" if survey[name] is None else f" = {survey[name]}"
                lines.append(name + " " * (8 - len(name)) + f" {survey.question_of(name)}{told}")
                script.append(f"put {name} {survey.question_of(name)}")
                if told:
                    script.append(f"tell {name} {survey[name]}")
            self.assertEqual(found.run(["lot"]), lines or ["empty"])
            self.assertEqual(found.run(["script"]), script)
            new = Desk(found.dimension)
            new.run(script)
            self.assertEqual(state(new.survey), state(survey))
            self.assertEqual(new.run(["script"]), script)
            self.assertEqual((new.survey.as_lot(), new.survey.told()), (survey.as_lot(), survey.told()))

    def test_spaces(self):
        for found in desks():
            space = least_space(found.survey.as_lot())
            self.assertEqual(found.run(["space"]), texts(space) or ["empty"])
            self.assertEqual(found.run(["counts"]), [" ".join(texts(space.counts())) or "empty"])

    def test_fits(self):
        drawn = Drawn(275)
        for found in desks():
            for name in found.survey:
                found.run([f"tell {name} {drawn.ratio()}"])
            self.assertEqual(found.run(["fit"]), [str(found.survey.fit())])

    def test_newton_polynomials(self):
        for found in desks():
            names = list(found.survey)
            wanted = [name.ljust(8) + " " + str(polynomial)
                      for name, polynomial in zip(names, newton_basis(found.survey.as_lot()))]
            self.assertEqual(found.run(["newton"]), wanted or ["empty"])

    def test_membership(self):
        drawn = Drawn(277)
        seen = {True: 0, False: 0}
        for found in desks():
            lot = found.survey.as_lot()
            space = least_space(lot)
            polynomials = [*space, drawn.polynomial(found.dimension, 3, 2), drawn.polynomial(found.dimension, 8, 2)]
            for polynomial in polynomials:
                written = found.run([f"belongs {polynomial}"])
                self.assertEqual(len(written), 1)
                self.assertIs(written == ["yes"], polynomial in space)
                if written != ["yes"]:
                    self.assertTrue(written[0].startswith("no: "))
                    obstruction = read_polynomial(written[0][4:], found.dimension)
                    self.assert_holds(NonMember(lot, polynomial, obstruction))
                seen[written == ["yes"]] += 1
        self.assertGreater(min(seen.values()), 30)

    def test_obstructions_by_hand(self):
        found = desk("put a at 0 0", "put b at 1 1")
        self.assertEqual(found.run(["belongs x + y", "belongs 0"]), ["yes", "yes"])
        written = found.run(["belongs x - y"])[0]
        self.assertTrue(written.startswith("no: "))
        self.assert_holds(NonMember(found.survey.as_lot(), poly("x - y"), poly(written[4:])))

    def test_weights(self):
        seen = {}
        for found in desks():
            lot = found.survey.as_lot()
            questions = [*lot][:3]
            if lot.width < 8:
                questions.append(ask(" ".join(["at", *["17/3"] * found.dimension]), found.dimension))
            for question in questions:
                degree = exact_degree(lot, question)
                word = "all" if degree is None else str(degree)
                numbers = "".join([f" {number}" for number in weights_for(lot, question)])
                self.assertEqual(found.run([f"weights {question}"]), [f"degree {word} weights{numbers}"])
                seen[word] = True
        self.assertGreater(len(seen), 4)

    def test_closed(self):
        seen = {True: 0, False: 0}
        for found in desks():
            lot = found.survey.as_lot()
            written = found.run(["closed"])[0]
            closed = judge_closure(lot).VERDICT
            self.assertIs(written == "yes", closed)
            seen[closed] += 1
            if not closed:
                start, name, variable, *rest = written.split(" ")
                polynomial = read_polynomial(" ".join(rest), found.dimension)
                self.assertEqual(start, "no:")
                self.assert_holds(Spoiled(lot, polynomial, VARIABLES.index(variable), list(found.survey).index(name)))
        self.assertGreater(min(seen.values()), 9)

    def test_ideals(self):
        for found in desks():
            lot = found.survey.as_lot()
            if judge_closure(lot).VERDICT:
                for order in all_orders(found.dimension):
                    ideal = Ideal(lot, order)
                    self.assertEqual(found.run([f"basis {order}"]), texts(ideal.basis()))
                    normal = [written_monomial(place) for place in ideal.normal_monomials()]
                    self.assertEqual(found.run([f"normal {order}"]), [", ".join(normal) or "empty"])

    def test_sets(self):
        for found in desks():
            wanted = [", ".join([written_monomial(place) for place in lower])
                      for lower in fitting_sets(found.survey.as_lot())]
            if len(found.survey):
                self.assertEqual(found.run(["sets"]), wanted or ["none"])
            else:
                self.assertEqual(found.run(["sets"]), ["empty"])

    def test_stairs(self):
        seen = {True: 0, False: 0}
        for found in desks():
            lot = found.survey.as_lot()
            if lot.plain:
                written = found.run(["stairs"])[0]
                if written != "yes":
                    start, first, second, variable = written.split(" ")
                    names = list(found.survey)
                    self.assertEqual(start, "no:")
                    self.assert_holds(Crossed(lot, VARIABLES.index(variable), names.index(first), names.index(second)))
                seen[written == "yes"] += 1
        self.assertGreater(min(seen.values()), 5)
        found = desk("put a at 0 0", "put b at 1 1")
        self.assertIn(found.run(["stairs"])[0], ["no: a b x", "no: b a x", "no: a b y", "no: b a y"])

    def test_answers_change_nothing(self):
        found = desk(*CORNER, "tell a 1", "tell b 1", "tell cdefghij 1", "undo", "redo", "undo")
        before = history(found.survey)
        found.run(["lot", "script", "space", "counts", "newton", "belongs x^2", "weights at 3 3", "closed", "sets",
                   "normal degree xy", "basis variables yx", "stairs"])
        self.assertEqual(history(found.survey), before)

    def test_long_numbers(self):
        found = desk("put a at 0", "put b at 1", dimension=1)
        found.survey["a"] = Ratio(7 ** 20000, 3 ** 20000)
        found.survey["b"] = Ratio(-10 ** 20000)
        digits = "1" + "0" * 20000
        lines = found.run(["lot", "script", "fit"])
        self.assertEqual(lines[1], f"b        at 1 = -{digits}")
        self.assertEqual(lines[5], f"tell b -{digits}")
        self.assertTrue(lines[6].startswith(lines[0].partition(" = ")[2] + " - "))
        self.assertTrue(lines[6].endswith(" x"))
        self.assertEqual(len(found.run(["weights at 999/998 ask x^4"])), 1)

    def test_long_numbers_that_are_told(self):
        found = desk("put a at 0 0", "put b at 1/999 998/997", "put c at 991/983 -1/977")
        for name in "abc":
            found.run([f"tell {name} {10 ** 59 + 7}/{10 ** 59 + 9}"])
        self.assertEqual(found.run(["fit"]), [f"{Ratio(10 ** 59 + 7, 10 ** 59 + 9)}"])


def written_monomial(exponents):
    powers = [name + (f"^{exponent}" if exponent > 1 else "") for name, exponent in zip(VARIABLES, exponents) if exponent]
    return " ".join(powers) or "1"


if __name__ == "__main__":
    unittest.main()

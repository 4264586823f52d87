import unittest

from spotheights.errors import BadName, Dependent, NothingToRedo, NothingToUndo, NotTold, SpotError, TooLarge, TooWide
from spotheights.errors import UnknownName, UsedName, WrongDimension
from spotheights.fitting import fit
from spotheights.leastspace import least_space
from spotheights.lots import Lot
from spotheights.newton import added_degrees
from spotheights.polynomials import Polynomial
from spotheights.ratios import Ratio
from spotheights.survey import Survey
from spotheights.weights import exact_degree
from tests.helpers import Drawn, ask, lot, many_lots, poly, ratios, texts

GOOD_NAMES = ["a", "z", "a1", "abcdefgh", "z9999999", "x0y1z2", "put", "at"]
BAD_NAMES = ["", "1", "1a", "A", "aB", "a_", "a b", " a", "a ", "a\n", "\n", "abcdefghi", "a" * 100, "\u00e4", "a\u00e9",
             "a\u00b2", "a\u0661", "\uff41", "a-", "-", "a\x00", "\u00aa"]


def state(survey):
    """All that a survey has now."""
    return [(name, str(survey.question_of(name)), str(survey[name])) for name in survey]


def history(survey):
    """What a survey has now, and all that can be undone and redone; the survey is left as it was."""
    before, behind = [], []
    for walk, way, ending in [(before, survey.undo, NothingToUndo), (behind, survey.redo, NothingToRedo)]:
        try:
            while True:
                way()
                walk.append(state(survey))
        except ending:
            pass
        back = survey.redo if way == survey.undo else survey.undo
        for _ in walk:
            back()
    return before, state(survey), behind


def filled_survey():
    """A survey with a history in both directions."""
    survey = Survey(2)
    survey.put("a", ask("at 0 0"), Ratio(3))
    survey.put("b", ask("at 1 0"))
    survey.put("c", ask("at 1 0 ask y"), Ratio(-1, 2))
    survey.tell("b", Ratio(7))
    survey.take("a")
    survey.undo()
    survey.undo()
    return survey


class Questions(unittest.TestCase):

    def test_example(self):
        survey = Survey(2)
        self.assertIsNone(survey.put("a", ask("at 0 0")))
        survey.put("b", ask("at 3 0"))
        survey.put("c", ask("at 7 0"))
        self.assertEqual(survey.growth(), [0, 1, 2])

    def test_the_empty_survey(self):
        for dimension in [1, 2, 3]:
            survey = Survey(dimension)
            self.assertEqual((survey.dimension, len(survey), list(survey)), (dimension, 0, []))
            self.assertEqual(survey.as_lot(), Lot.empty(dimension))
            self.assertEqual((survey.told(), survey.growth()), ([], []))
            self.assertEqual((len(survey.least()), str(survey.fit())), (0, "0"))
            question = ask(" ".join(["at"] + ["3"] * dimension), dimension)
            self.assertEqual(survey.estimate(question), (Ratio(0), -1))
            self.assertNotIn("a", survey)

    def test_dimensions(self):
        for dimension in [0, 4, -1]:
            with self.assertRaises(WrongDimension):
                Survey(dimension)

    def test_answers_by_hand(self):
        survey = filled_survey()
        self.assertEqual(len(survey), 3)
        self.assertEqual(list(survey), ["a", "b", "c"])
        self.assertEqual(("a" in survey, "d" in survey), (True, False))
        self.assertEqual((survey["a"], survey["b"], survey["c"]), (Ratio(3), None, Ratio(-1, 2)))
        self.assertEqual(survey.question_of("c"), ask("at 1 0 ask y"))
        self.assertEqual(survey.as_lot(), lot("at 0 0", "at 1 0", "at 1 0 ask y"))
        self.assertEqual(survey.told(), [Ratio(3), None, Ratio(-1, 2)])
        self.assertEqual(texts(survey.least()), ["1", "x", "y"])
        self.assertEqual(survey.growth(), [0, 1, 1])
        survey["b"] = Ratio(0)
        self.assertEqual(str(survey.fit()), "3 - 3 x - 1/2 y")
        number, degree = survey.estimate(ask("at 2 2"))
        self.assertEqual((number, degree), (Ratio(-4), 1))
        self.assertIsInstance(survey.estimate(ask("at 2 2")), tuple)

    def test_every_lot(self):
        drawn = Drawn(271)
        for found in many_lots():
            survey = Survey(found.dimension)
            answers = drawn.row(len(found))
            for at, (question, answer) in enumerate(zip(found, answers)):
                survey.put(f"q{at}", question, answer)
            self.assertEqual(survey.as_lot(), found)
            self.assertEqual(survey.told(), answers)
            self.assertEqual(survey.least(), least_space(found))
            self.assertEqual(survey.growth(), added_degrees(found))
            self.assertEqual(survey.fit(), fit(found, answers))
            for question in found:
                self.assertEqual(survey.estimate(question), (question.ask(survey.fit()), None))
            further = ask(" ".join(["at", *["13/2"] * found.dimension]), found.dimension)
            if found.width < 8:
                self.assertEqual(survey.estimate(further), (further.ask(survey.fit()), exact_degree(found, further)))

    def test_iteration(self):
        survey = filled_survey()
        self.assertEqual([name for name in survey], ["a", "b", "c"])
        for name in survey:
            survey.take(name)
        self.assertEqual(list(survey), [])


class Names(unittest.TestCase):

    def test_good_ones(self):
        survey = Survey(1)
        for at, name in enumerate(GOOD_NAMES):
            survey.put(name, ask(f"at {at}", 1))
        self.assertEqual(list(survey), GOOD_NAMES)
        self.assertEqual((len(survey), survey.as_lot().width), (8, 8))

    def test_bad_ones(self):
        survey = filled_survey()
        before = history(survey)
        for name in BAD_NAMES:
            with self.subTest(repr(name)):
                for question in [ask("at 5 5"), ask("at 5", 1), ask("at 0 0")]:
                    with self.assertRaises(BadName):
                        survey.put(name, question)
                self.assertIs(name in survey, False)
                self.assert_unknown(survey, name)
        self.assertEqual(history(survey), before)

    def assert_unknown(self, survey, name):
        for call in [lambda: survey.take(name), lambda: survey.tell(name, Ratio(1)), lambda: survey.tell(name, None),
                     lambda: survey[name], lambda: survey.question_of(name), lambda: survey.__setitem__(name, Ratio(1)),
                     lambda: survey.together([("take", name)]), lambda: survey.together([("tell", name, None)])]:
            with self.assertRaises(UnknownName):
                call()

    def test_unknown_ones(self):
        survey = filled_survey()
        before = history(survey)
        for name in ["d", "aa", "b1"]:
            self.assertIs(name in survey, False)
            self.assert_unknown(survey, name)
        self.assertEqual(history(survey), before)
        survey.take("b")
        self.assert_unknown(survey, "b")

    def test_the_order_of_the_errors_of_put(self):
        survey = filled_survey()
        for name, question, error in [
            ("A", ask("at 3", 1), BadName), ("a", ask("at 3", 1), UsedName), ("a", ask("at 0 0"), UsedName),
            ("d", ask("at 3", 1), WrongDimension), ("d", ask("at 0 0 0", 3), WrongDimension),
            ("d", ask("at 0 0 ask 2"), Dependent), ("d", ask("at 5 5 ask x^2 y^2"), TooWide),
        ]:
            for call in [lambda: survey.put(name, question), lambda: survey.put(name, question, Ratio(1)),
                         lambda: survey.together([("put", name, question, None)])]:
                with self.assertRaises(error):
                    call()
        with self.assertRaises(Dependent) as caught:
            survey.put("d", ask("at 1 0 ask 1 + 2 y"))
        self.assertEqual(caught.exception.weights, ratios("0 -1 -2 1"))

    def test_a_name_can_be_used_again(self):
        survey = filled_survey()
        survey.take("a")
        survey.put("a", ask("at 9 9"), Ratio(1))
        self.assertEqual(list(survey), ["b", "c", "a"])
        self.assertEqual(survey["a"], Ratio(1))


class Deeds(unittest.TestCase):

    def test_take(self):
        survey = filled_survey()
        self.assertIsNone(survey.take("b"))
        self.assertEqual(state(survey), [("a", "at 0 0", "3"), ("c", "at 1 0 ask y", "-1/2")])

    def test_tell(self):
        survey = filled_survey()
        self.assertIsNone(survey.tell("b", Ratio(2)))
        self.assertEqual(survey["b"], Ratio(2))
        survey["b"] = Ratio(0)
        self.assertEqual(survey["b"], Ratio(0))
        self.assertIsNotNone(survey["b"])
        survey.tell("b", None)
        self.assertIsNone(survey["b"])
        survey.undo()
        survey.undo()
        self.assertEqual(survey["b"], Ratio(2))
        survey["b"] = None
        self.assertEqual(survey.told(), [Ratio(3), None, Ratio(-1, 2)])

    def test_shift(self):
        survey = filled_survey()
        self.assertIsNone(survey.shift(ratios("1/2 -3")))
        self.assertEqual(state(survey), [("a", "at 1/2 -3", "3"), ("b", "at 3/2 -3", "None"),
                                         ("c", "at 3/2 -3 ask y", "-1/2")])
        survey.shift(tuple(ratios("-1/2 3")))
        self.assertEqual(state(survey), state(filled_survey()))
        before = history(survey)
        for by, error in [("999 0", TooLarge), ("0 1/1000", TooLarge), ("1", WrongDimension), ("1 2 3", WrongDimension),
                          ("", WrongDimension)]:
            with self.assertRaises(error):
                survey.shift(ratios(by))
        self.assertEqual(history(survey), before)

    def test_shift_without_questions(self):
        survey = Survey(2)
        for by in ["", "1", "1 2 3"]:
            with self.assertRaises(WrongDimension):
                survey.shift(ratios(by))
        with self.assertRaises(NothingToUndo):
            survey.undo()
        survey.shift(ratios("500 1/3"))
        self.assertIsNone(survey.undo())

    def test_the_width(self):
        survey = Survey(1)
        survey.put("a", ask("at 0 ask x^4", 1))
        for at in range(3):
            survey.put(f"b{at}", ask(f"at {at + 1}", 1))
        self.assertEqual(survey.as_lot().width, 8)
        before = history(survey)
        with self.assertRaises(TooWide):
            survey.put("c", ask("at 9", 1))
        self.assertEqual(history(survey), before)
        survey.put("c", ask("at 0 ask x^2", 1))
        survey.take("b0")
        survey.put("b0", ask("at 9", 1))
        self.assertEqual(list(survey), ["a", "b1", "b2", "c", "b0"])

    def test_deeds_that_fail_change_nothing(self):
        survey = filled_survey()
        before = history(survey)
        self.assertEqual((len(before[0]), len(before[2])), (3, 2))
        for call in [
            lambda: survey.put("A", ask("at 5 5")), lambda: survey.put("a", ask("at 5 5")),
            lambda: survey.put("d", ask("at 0 0")), lambda: survey.take("d"), lambda: survey.tell("d", None),
            lambda: survey.shift(ratios("1")), lambda: survey.together([("take", "a"), ("take", "a")]),
        ]:
            with self.assertRaises(SpotError):
                call()
            self.assertEqual(history(survey), before)


class Together(unittest.TestCase):

    def test_one_deed(self):
        survey = filled_survey()
        before = state(survey)
        self.assertIsNone(survey.together([
            ("put", "d", ask("at 5 5"), Ratio(4)), ("take", "a"), ("tell", "b", Ratio(9)), ("tell", "d", None),
            ("shift", ratios("1 1")), ("put", "a", ask("at 0 0"), None),
        ]))
        after = [("b", "at 2 1", "9"), ("c", "at 2 1 ask y", "-1/2"), ("d", "at 6 6", "None"), ("a", "at 0 0", "None")]
        self.assertEqual(state(survey), after)
        survey.undo()
        self.assertEqual(state(survey), before)
        survey.redo()
        self.assertEqual(state(survey), after)
        with self.assertRaises(NothingToRedo):
            survey.redo()

    def test_the_last_deed_fails(self):
        survey = filled_survey()
        before = history(survey)
        good = [("put", "d", ask("at 5 5"), Ratio(4)), ("take", "a"), ("tell", "b", Ratio(9)), ("shift", ratios("1 1"))]
        for bad, error in [
            (("put", "D", ask("at 7 7"), None), BadName), (("put", "d", ask("at 7 7"), None), UsedName),
            (("put", "e", ask("at 7", 1), None), WrongDimension), (("put", "e", ask("at 6 6 ask 3"), None), Dependent),
            (("put", "e", ask("at 9 9 ask x^2 y^2"), None), TooWide), (("take", "a"), UnknownName),
            (("tell", "a", Ratio(1)), UnknownName), (("shift", ratios("1")), WrongDimension),
            (("shift", ratios("999 0")), TooLarge),
        ]:
            with self.subTest(str(bad)):
                with self.assertRaises(error):
                    survey.together([*good, bad])
                with self.assertRaises(error):
                    survey.together((*good, bad, ("take", "b"), ("take", "unknown")))
                self.assertEqual(history(survey), before)

    def test_no_deeds(self):
        survey = filled_survey()
        before = history(survey)
        survey.together([])
        self.assertEqual(state(survey), before[1])
        with self.assertRaises(NothingToRedo):
            survey.redo()
        self.assertEqual(history(survey), ([before[1], *before[0]], before[1], []))
        empty = Survey(1)
        empty.together(())
        empty.undo()
        with self.assertRaises(NothingToUndo):
            empty.undo()
        empty.redo()

    def test_deeds_that_leave_everything_as_it_was(self):
        for deed in [lambda survey: survey.tell("a", Ratio(3)), lambda survey: survey.tell("b", None),
                     lambda survey: survey.shift(ratios("0 0")),
                     lambda survey: survey.together([("tell", "a", None), ("tell", "a", Ratio(3))])]:
            survey = filled_survey()
            before = history(survey)
            deed(survey)
            self.assertEqual(history(survey), ([before[1], *before[0]], before[1], []))

    def test_lists_may_be_changed_afterwards(self):
        survey = Survey(2)
        by = ratios("1 2")
        deeds = [("put", "a", ask("at 0 0"), None), ("shift", by)]
        survey.together(deeds)
        self.assertEqual((len(deeds), by), (2, ratios("1 2")))
        by[0] = Ratio(100)
        deeds.clear()
        survey.undo()
        survey.redo()
        self.assertEqual(state(survey), [("a", "at 1 2", "None")])
        by = ratios("1 2")
        survey.shift(by)
        by.clear()
        survey.undo()
        survey.redo()
        self.assertEqual(state(survey), [("a", "at 2 4", "None")])


class Undoing(unittest.TestCase):

    def test_to_the_end_and_back(self):
        survey = Survey(2)
        states = [state(survey)]
        for deed in [lambda: survey.put("a", ask("at 0 0")), lambda: survey.put("b", ask("at 1 0"), Ratio(1)),
                     lambda: survey.tell("a", Ratio(5)), lambda: survey.shift(ratios("1 1")), lambda: survey.take("a"),
                     lambda: survey.together([]), lambda: survey.put("a", ask("at 7 7"))]:
            deed()
            states.append(state(survey))
        for wanted in states[-2::-1]:
            self.assertIsNone(survey.undo())
            self.assertEqual(state(survey), wanted)
        for _ in range(2):
            with self.assertRaises(NothingToUndo):
                survey.undo()
            self.assertEqual(state(survey), [])
        for wanted in states[1:]:
            self.assertIsNone(survey.redo())
            self.assertEqual(state(survey), wanted)
        for _ in range(2):
            with self.assertRaises(NothingToRedo):
                survey.redo()
            self.assertEqual(state(survey), states[-1])

    def test_new_surveys(self):
        with self.assertRaises(NothingToUndo):
            Survey(1).undo()
        with self.assertRaises(NothingToRedo):
            Survey(1).redo()

    def test_a_new_deed_ends_redoing(self):
        for deed in [lambda survey: survey.put("d", ask("at 5 5")), lambda survey: survey.take("b"),
                     lambda survey: survey.tell("c", None), lambda survey: survey.shift(ratios("1 1")),
                     lambda survey: survey.together([]), lambda survey: survey.__setitem__("a", Ratio(3))]:
            survey = filled_survey()
            deed(survey)
            with self.assertRaises(NothingToRedo):
                survey.redo()
            survey.undo()
            self.assertEqual(state(survey), state(filled_survey()))
            survey.redo()

    def test_setting_an_item_is_a_deed(self):
        survey = filled_survey()
        survey["a"] = Ratio(99)
        self.assertEqual(survey["a"], Ratio(99))
        survey.undo()
        self.assertEqual(survey["a"], Ratio(3))

    def test_many_deeds(self):
        survey = Survey(1)
        survey.put("a", ask("at 0", 1))
        for k in range(2000):
            survey.tell("a", Ratio(k))
        for _ in range(1500):
            survey.undo()
        self.assertEqual(survey["a"], Ratio(499))

    def test_two_surveys_have_nothing_in_common(self):
        first, second = filled_survey(), filled_survey()
        before = history(second)
        first.take("a")
        first.undo()
        first.undo()
        self.assertEqual(history(second), before)


class Answers(unittest.TestCase):

    def test_untold_answers(self):
        survey = filled_survey()
        for call in [survey.fit, lambda: survey.estimate(ask("at 5 5"))]:
            with self.assertRaises(NotTold) as caught:
                call()
            self.assertEqual(caught.exception.name, "b")
        survey["a"] = None
        with self.assertRaises(NotTold) as caught:
            survey.fit()
        self.assertEqual(caught.exception.name, "a")
        survey["a"] = Ratio(0)
        survey["b"] = Ratio(0)
        survey["c"] = Ratio(0)
        self.assertEqual(survey.fit(), Polynomial.zero(2))

    def test_the_order_of_the_errors_of_estimate(self):
        survey = filled_survey()
        with self.assertRaises(WrongDimension):
            survey.estimate(ask("at 5", 1))
        with self.assertRaises(NotTold):
            survey.estimate(ask("at 5 5 ask x^2 y^2"))
        survey["b"] = Ratio(1)
        with self.assertRaises(WrongDimension):
            survey.estimate(ask("at 5 5 5 ask x y z", 3))
        with self.assertRaises(TooWide):
            survey.estimate(ask("at 5 5 ask x^2 y^2"))
        self.assertEqual(survey.estimate(ask("at 1 0 ask 3 - y")), (Ratio(7, 2), None))

    def test_estimates_change_nothing(self):
        survey = filled_survey()
        survey["b"] = Ratio(1)
        before = history(survey)
        survey.estimate(ask("at 5 5"))
        survey.fit()
        survey.growth()
        self.assertEqual(history(survey), before)

    def test_long_numbers(self):
        survey = filled_survey()
        long = Ratio(10 ** 9000 + 1, 3 ** 9000)
        survey["b"] = long
        self.assertEqual(survey["b"], long)
        self.assertEqual(survey.fit()([Ratio(1), Ratio(0)]), long)
        self.assertGreater(len(str(survey.fit())), 13000)

    def test_lists_are_new(self):
        survey = filled_survey()
        before = history(survey)
        survey.told().clear()
        survey.growth().clear()
        list(survey).clear()
        survey.as_lot().ask(poly("1")).clear()
        self.assertEqual(history(survey), before)
        told = survey.told()
        told[0] = Ratio(77)
        self.assertEqual(survey["a"], Ratio(3))


if __name__ == "__main__":
    unittest.main()

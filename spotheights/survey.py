"""Surveys: named questions with told answers, and deeds that can be undone and redone."""

from spotheights.checks import check_dimension_of
from spotheights.errors import NothingToRedo, NothingToUndo
from spotheights.fitting import Fitter
from spotheights.leastspace import least_space
from spotheights.newton import added_degrees
from spotheights.sheets import empty_sheet
from spotheights.weights import exact_degree


class Survey:
    """Named questions in order, each with a told answer or none."""

    def __init__(self, dimension):
        self._now = empty_sheet(dimension)
        self._before = []
        self._undone = []
        self.dimension = dimension

    def put(self, name, question, answer=None):
        """Put a question behind the others."""
        self._go_on(self._now.after_put(name, question, answer))

    def take(self, name):
        """Take a question out."""
        self._go_on(self._now.after_take(name))

    def tell(self, name, answer):
        """Set the told answer of a question; None takes it back."""
        self._go_on(self._now.after_tell(name, answer))

    def shift(self, by):
        """Move all spots."""
        self._go_on(self._now.after_shift(by))

    def together(self, deeds):
        """Do a list of deeds in order as one deed."""
        sheet = self._now
        for deed in deeds:
            sheet = sheet.after_deed(deed)
        self._go_on(sheet)

    def undo(self):
        """Take back the last deed that is not taken back."""
        if not self._before:
            raise NothingToUndo("there is no deed to take back")
        self._undone.append(self._now)
        self._now = self._before.pop()

    def redo(self):
        """Do the deed again that was taken back last."""
        if not self._undone:
            raise NothingToRedo("there is no deed to do again")
        self._before.append(self._now)
        self._now = self._undone.pop()

    def marked(self):
        """What `return_to` takes to make everything as it is now."""
        return list(self._before), self._now, list(self._undone)

    def return_to(self, mark):
        """Make everything, also what can be undone and redone, as it was when it was marked."""
        before, now, undone = mark
        self._before = list(before)
        self._now = now
        self._undone = list(undone)

    def _go_on(self, sheet):
        """Go over to what a new deed made; what was taken back before cannot be done again."""
        self._before.append(self._now)
        self._undone.clear()
        self._now = sheet

    def question_of(self, name):
        """The question with this name."""
        return self._now.lot.question_at(self._now.place_of(name))

    def as_lot(self):
        """The lot of the questions."""
        return self._now.lot

    def told(self):
        """The list of the told answers, None where there is none."""
        return list(self._now.answers)

    def least(self):
        """The least space of the questions."""
        return least_space(self._now.lot)

    def growth(self):
        """The list of the degrees in which the least space grew question by question."""
        return added_degrees(self._now.lot)

    def fit(self):
        """The fit of the told answers."""
        answers = self._now.all_answers()
        return Fitter(self._now.lot).fit_of(answers)

    def estimate(self, question):
        """The answer of the fit to a further question, and the exact degree of the weights for it."""
        check_dimension_of(question, self.dimension)
        polynomial = self.fit()
        return question.ask(polynomial), exact_degree(self._now.lot, question)

    def __len__(self):
        return len(self._now.names)

    def __iter__(self):
        return iter(self._now.names)

    def __contains__(self, name):
        return name in self._now.names

    def __getitem__(self, name):
        return self._now.answers[self._now.place_of(name)]

    def __setitem__(self, name, answer):
        self.tell(name, answer)

"""Sheets: what a survey has at one time, and what its deeds make of it."""

from spotheights.errors import BadName, NotTold, UnknownName, UsedName
from spotheights.lots import Lot

LONGEST_NAME = 8
LETTERS = "abcdefghijklmnopqrstuvwxyz"
DIGITS = "0123456789"


class Sheet:
    """Named questions that make up a lot, each with a told answer or None; it does not change after it is made."""

    def __init__(self, lot, names, answers):
        self.lot = lot
        self.names = names
        self.answers = answers

    def place_of(self, name):
        """The index of the question with this name."""
        if name not in self.names:
            raise UnknownName("the name is not in use")
        return self.names.index(name)

    def after_put(self, name, question, answer):
        """The sheet with one more question at the end."""
        if not _is_name(name):
            raise BadName("a name has 1 to 8 letters and digits, a letter first")
        if name in self.names:
            raise UsedName("the name is in use already")
        return Sheet(self.lot.with_question(question), [*self.names, name], [*self.answers, answer])

    def after_take(self, name):
        """The sheet without the question with this name."""
        at = self.place_of(name)
        left = [k for k in range(len(self.names)) if k != at]
        return Sheet(self.lot.part(left), [self.names[k] for k in left], [self.answers[k] for k in left])

    def after_tell(self, name, answer):
        """The sheet with this answer, or none, for the question with this name."""
        at = self.place_of(name)
        return Sheet(self.lot, self.names, [*self.answers[:at], answer, *self.answers[at + 1:]])

    def after_shift(self, by):
        """The sheet with all spots moved."""
        return Sheet(self.lot.shifted(by), self.names, self.answers)

    def after_deed(self, deed):
        """The sheet that the deed, a tuple of its word and what it takes, makes of this one."""
        if deed[0] == "put":
            return self.after_put(deed[1], deed[2], deed[3])
        if deed[0] == "take":
            return self.after_take(deed[1])
        if deed[0] == "tell":
            return self.after_tell(deed[1], deed[2])
        return self.after_shift(deed[1])

    def all_answers(self):
        """The list of the answers, which must all be told."""
        for name, answer in zip(self.names, self.answers):
            if answer is None:
                raise NotTold(name)
        return list(self.answers)


def empty_sheet(dimension):
    """The sheet without questions."""
    return Sheet(Lot.empty(dimension), [], [])


def _is_name(text):
    """Whether the text has the form of a name."""
    if len(text) < 1 or len(text) > LONGEST_NAME or text[0] not in LETTERS:
        return False
    return all([sign in LETTERS or sign in DIGITS for sign in text])

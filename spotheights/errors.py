"""The errors that the program raises."""


class SpotError(ValueError):
    """The base class of all errors that the program raises."""


class ZeroDivisor(SpotError):
    """A division by zero, or a fraction with the bottom zero."""


class WrongDimension(SpotError):
    """A dimension other than 1, 2 or 3, or two dimensions that do not go together."""


class BadMonomial(SpotError):
    """A negative exponent."""


class BadIndex(SpotError):
    """An index that is negative or too large."""


class WrongCount(SpotError):
    """A list or a row of another length than it must have."""


class TooLarge(SpotError):
    """A degree or a number above its limit."""


class TooWide(SpotError):
    """A list of questions with a width above 8."""


class ZeroOperator(SpotError):
    """A question whose operator is zero."""


class Singular(SpotError):
    """A square matrix with the determinant zero."""


class NotPlain(SpotError):
    """A lot with an operator that is not a constant."""


class NotDegree(SpotError):
    """An order that is not of the kind "degree"."""


class BadOrder(SpotError):
    """An unknown kind of order, or a ranking that is none."""


class BadName(SpotError):
    """A text that is not the name of a question."""


class UsedName(SpotError):
    """A name that is in use already."""


class UnknownName(SpotError):
    """A name that is not in use."""


class NothingToUndo(SpotError):
    """There is no deed that can be taken back."""


class NothingToRedo(SpotError):
    """There is no deed that can be done again."""


class Dependent(SpotError):
    """A question that depends on those before it; `weights` shows how."""

    def __init__(self, weights):
        super().__init__("the question depends on those before it")
        self.weights = list(weights)


class NotClosed(SpotError):
    """A lot or a space that is not closed; `certificate` shows it, or is None."""

    def __init__(self, certificate):
        super().__init__("it is not closed")
        self.certificate = certificate


class NoFit(SpotError):
    """A space that does not fit a lot; `certificate` shows it."""

    def __init__(self, certificate):
        super().__init__("the space does not fit the lot")
        self.certificate = certificate


class NotTold(SpotError):
    """An answer that is not told; `name` is the name of its question."""

    def __init__(self, name):
        super().__init__("the answer of a question is not told")
        self.name = name


class BadText(SpotError):
    """A text that cannot be read; `text` is the whole text."""

    def __init__(self, text):
        super().__init__("the text cannot be read")
        self.text = text


class BadNumber(BadText):
    """A text that is not the written form of a number."""


class BadPolynomial(BadText):
    """A text that is not the written form of a polynomial."""


class BadQuestion(BadText):
    """A text that is not the written form of a question."""


class BadLine(BadText):
    """A line that a desk refuses; `number` is its place, `code` a word for the cause."""

    def __init__(self, text, number, code):
        super().__init__(text)
        self.number = number
        self.code = code

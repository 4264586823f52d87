"""Reading the lines that a desk takes."""

from spotheights.errors import BadNumber, BadPolynomial, BadText
from spotheights.orders import read_order
from spotheights.polytext import read_polynomial
from spotheights.questiontext import read_question
from spotheights.ratios import Ratio

LARGEST_OF_SHIFT = 999
GREATEST_WRITTEN_DEGREE = 8


def read_line(line, dimension):
    """The command of the line, and the list of what stands behind it, read."""
    words = line.split(" ")
    if "" in words or words[0] not in READERS:
        raise BadText(line)
    read = READERS[words[0]]
    return words[0], read(words[1:], dimension)


def _read_nothing(words, dimension):
    """No words."""
    _check_length(words, 0)
    return []


def _read_name(words, dimension):
    """Any word as a name."""
    _check_length(words, 1)
    return [words[0]]


def _read_name_and_question(words, dimension):
    """Any word as a name, and a question."""
    return [*_read_name(words[:1], dimension), *_read_question(words[1:], dimension)]


def _read_name_and_number(words, dimension):
    """Any word as a name, and a number."""
    _check_length(words, 2)
    return [words[0], Ratio.read(words[1])]


def _read_steps(words, dimension):
    """A list of short numbers, one for each coordinate."""
    _check_length(words, dimension)
    numbers = [Ratio.read(word) for word in words]
    for word, number in zip(words, numbers):
        if abs(number.top) > LARGEST_OF_SHIFT or number.bottom > LARGEST_OF_SHIFT:
            raise BadNumber(word)
    return [numbers]


def _read_polynomial(words, dimension):
    """A polynomial that is short enough to be passed together with a lot."""
    text = " ".join(words)
    polynomial = read_polynomial(text, dimension)
    if polynomial.degree > GREATEST_WRITTEN_DEGREE:
        raise BadPolynomial(text)
    return [polynomial]


def _read_question(words, dimension):
    """A question."""
    return [read_question(" ".join(words), dimension)]


def _read_order(words, dimension):
    """An order of the monomials of this dimension."""
    text = " ".join(words)
    order = read_order(text)
    if order.dimension != dimension:
        raise BadText(text)
    return [order]


def _check_length(words, many):
    """Refuse another number of words."""
    if len(words) != many:
        raise BadText(" ".join(words))


READERS = {
    "put": _read_name_and_question,
    "take": _read_name,
    "tell": _read_name_and_number,
    "forget": _read_name,
    "shift": _read_steps,
    "undo": _read_nothing,
    "redo": _read_nothing,
    "lot": _read_nothing,
    "script": _read_nothing,
    "space": _read_nothing,
    "counts": _read_nothing,
    "fit": _read_nothing,
    "newton": _read_nothing,
    "belongs": _read_polynomial,
    "weights": _read_question,
    "closed": _read_nothing,
    "normal": _read_order,
    "basis": _read_order,
    "sets": _read_nothing,
    "stairs": _read_nothing,
}

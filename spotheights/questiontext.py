"""Reading the written forms of questions."""

from spotheights.checks import check_dimension
from spotheights.errors import BadNumber, BadPolynomial, BadQuestion, TooLarge, ZeroOperator
from spotheights.polytext import read_polynomial
from spotheights.questions import Question
from spotheights.ratios import Ratio

LARGEST_OF_OPERATOR = 9999


def read_question(text, dimension):
    """The question of this dimension with this written form."""
    check_dimension(dimension)
    place, asked, written = text.partition(" ask ")
    words = place.split(" ")
    if len(words) != dimension + 1:
        raise BadQuestion(text)
    try:
        spot = [Ratio.read(word) for word in words[1:]]
        operator = read_polynomial(written if asked else "1", dimension)
        question = Question(spot, operator)
    except (BadNumber, BadPolynomial, TooLarge, ZeroOperator):
        raise BadQuestion(text) from None
    # Each question has one written form, so this refuses all the other ways to write it.
    if str(question) != text or not _is_short(operator):
        raise BadQuestion(text)
    return question


def _is_short(operator):
    """Whether the numbers of the operator have tops and bottoms of at most 4 digits."""
    numbers = [pair[1] for pair in operator.terms()]
    return all([abs(number.top) <= LARGEST_OF_OPERATOR and number.bottom <= LARGEST_OF_OPERATOR for number in numbers])

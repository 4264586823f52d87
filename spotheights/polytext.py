"""Reading the written forms of polynomials."""

from spotheights.checks import check_dimension
from spotheights.errors import BadNumber, BadPolynomial, TooLarge
from spotheights.polynomials import VARIABLES, Polynomial
from spotheights.ratios import Ratio

# There are 969 monomials of degree 16 at most; a term, its sign and its blanks take fewer than 140 characters.
LONGEST_TEXT = 969 * 140


def read_polynomial(text, dimension):
    """The polynomial of this dimension with this written form."""
    check_dimension(dimension)
    if len(text) > LONGEST_TEXT:
        raise BadPolynomial(text)
    try:
        found = Polynomial(dimension, _read_terms(text, dimension))
    except (BadNumber, BadPolynomial, TooLarge):
        raise BadPolynomial(text) from None
    # Each polynomial has one written form, so this refuses all the other ways to write it.
    if str(found) != text:
        raise BadPolynomial(text)
    return found


def _read_terms(text, dimension):
    """The terms that the text names, in any order and perhaps several times or with the number zero."""
    terms = []
    sign = -1 if text.startswith("-") else 1
    words = []
    for word in text.removeprefix("-").split(" "):
        if word == "+" or word == "-":
            terms.append(_read_term(words, sign, dimension))
            sign = -1 if word == "-" else 1
            words = []
        else:
            words.append(word)
    terms.append(_read_term(words, sign, dimension))
    return terms


def _read_term(words, sign, dimension):
    """The exponents and the number of a term."""
    number = Ratio(sign)
    powers = words
    if words and words[0][:1].isdigit():
        number = sign * Ratio.read(words[0])
        powers = words[1:]
    exponents = [0] * dimension
    for word in powers:
        index, exponent = _read_power(word, dimension)
        exponents[index] = exponent
    return tuple(exponents), number


def _read_power(word, dimension):
    """The index and the exponent of a power of a variable."""
    name, caret, exponent = word.partition("^")
    if name not in VARIABLES[:dimension]:
        raise BadPolynomial(word)
    if not caret:
        return VARIABLES.index(name), 1
    if len(exponent) > 2 or not exponent.isascii() or not exponent.isdigit():
        raise BadPolynomial(word)
    return VARIABLES.index(name), int(exponent)

"""Checks of arguments that several modules share."""

from spotheights.errors import BadIndex, BadMonomial, TooLarge, WrongCount, WrongDimension

DIMENSIONS = 3
GREATEST_DEGREE = 16


def check_dimension(dimension):
    """Refuse a number of variables other than 1, 2 or 3."""
    if dimension < 1 or dimension > DIMENSIONS:
        raise WrongDimension("a dimension is 1, 2 or 3")


def check_entries(entries, dimension):
    """Refuse a list that has not one entry for each variable."""
    if len(entries) != dimension:
        raise WrongDimension("there must be one entry for each variable")


def check_same(first, second):
    """Refuse two objects of unlike dimensions."""
    check_dimension_of(second, first.dimension)


def check_dimension_of(thing, dimension):
    """Refuse an object of another dimension."""
    if thing.dimension != dimension:
        raise WrongDimension("the dimensions are not the same")


def check_exponents(exponents, dimension):
    """Refuse what are not the exponents of a monomial of this dimension."""
    check_entries(exponents, dimension)
    if min(exponents) < 0:
        raise BadMonomial("an exponent is negative")
    if sum(exponents) > GREATEST_DEGREE:
        raise TooLarge("the degree of a monomial is above 16")


def check_index(index, many):
    """Refuse an index that none of so many things has."""
    if index < 0 or index >= many:
        raise BadIndex("the index is negative or too large")


def check_count(answers, many):
    """Refuse a list that has not one answer for each of so many questions."""
    if len(answers) != many:
        raise WrongCount("there must be one answer for each question")


def check_rows(rows, width):
    """Refuse rows that have not this width."""
    for row in rows:
        if len(row) != width:
            raise WrongCount("a row has another length")


def check_square(rows, size):
    """Refuse what is not a square matrix of this size."""
    if len(rows) != size:
        raise WrongCount("the matrix has another number of rows")
    check_rows(rows, size)

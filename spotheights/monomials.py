"""Monomials, told by tuples of exponents, and their standard order."""

from math import factorial

from spotheights.checks import check_dimension, check_entries


def monomials_of_degree(dimension, degree):
    """The list of all monomials of this degree, in the standard order."""
    check_dimension(dimension)
    if degree < 0:
        return []
    if dimension == 1:
        return [(degree,)]
    return [
        (first, *rest)
        for first in range(degree, -1, -1)
        for rest in monomials_of_degree(dimension - 1, degree - first)
    ]


def monomials_up_to(dimension, degree):
    """Generate all monomials of at most this degree, in the standard order."""
    check_dimension(dimension)
    for each in range(degree + 1):
        yield from monomials_of_degree(dimension, each)


def standard_place(exponents):
    """A tuple that is less for a monomial that comes earlier in the standard order."""
    return (sum(exponents), *[-exponent for exponent in exponents])


def comes_before(first, second):
    """Whether the first monomial comes before the second one in the standard order."""
    _check_pair(first, second)
    return standard_place(first) < standard_place(second)


def divides(first, second):
    """Whether the first monomial divides the second one."""
    _check_pair(first, second)
    return all([low <= high for low, high in zip(first, second)])


def monomial_factorial(exponents):
    """The product of the factorials of the exponents."""
    check_dimension(len(exponents))
    product = 1
    for exponent in exponents:
        product = product * factorial(exponent)
    return product


def has_all_divisors(monomials):
    """Whether the list has, with each of its monomials, all divisors of it."""
    found = {exponents: True for exponents in monomials}
    for exponents in monomials:
        for k in range(len(exponents)):
            if exponents[k] > 0 and (*exponents[:k], exponents[k] - 1, *exponents[k + 1:]) not in found:
                return False
    return True


def next_multiples(exponents):
    """The list of the products of the monomial and each of the variables."""
    return [(*exponents[:k], exponents[k] + 1, *exponents[k + 1:]) for k in range(len(exponents))]


def _check_pair(first, second):
    check_dimension(len(first))
    check_entries(second, len(first))

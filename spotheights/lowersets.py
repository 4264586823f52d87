"""Lower sets: sets of monomials that have all divisors of their monomials."""

from spotheights.checks import check_dimension, check_entries
from spotheights.matrices import rank
from spotheights.monomials import comes_before, has_all_divisors, next_multiples, standard_place
from spotheights.polynomials import Polynomial
from spotheights.ratios import Ratio
from spotheights.spaces import Space


def is_lower(monomials):
    """Whether the set of the monomials in the list is a lower set."""
    for exponents in monomials:
        check_dimension(len(exponents))
        check_entries(exponents, len(monomials[0]))
    return has_all_divisors([tuple(exponents) for exponents in monomials])


def lower_sets(dimension, size):
    """Generate all lower sets of so many monomials."""
    check_dimension(dimension)
    found = [()]
    # In the standard order each beginning of a lower set is one, and sets made from earlier beginnings come earlier.
    for _ in range(size):
        found = [(*lower, place) for lower in found for place in _next_places(dimension, lower)]
    for lower in found:
        yield lower


def fitting_sets(lot):
    """Generate all lower sets of as many monomials as there are questions whose combinations fit the lot."""
    many = len(lot)
    for lower in lower_sets(lot.dimension, many):
        if rank(lot.table(lower)) == many:
            yield lower


def monomial_space(dimension, monomials):
    """The space of all combinations of the monomials."""
    check_dimension(dimension)
    return Space(dimension, [Polynomial(dimension, [(exponents, Ratio(1))]) for exponents in monomials])


def _next_places(dimension, lower):
    """The monomials, in the standard order, that make a larger lower set when put behind those of this one."""
    if not lower:
        return [(0,) * dimension]
    found = {}
    for place in lower:
        for above in next_multiples(place):
            if comes_before(lower[-1], above) and has_all_divisors([*lower, above]):
                found[above] = True
    return sorted(list(found), key=standard_place)

"""The least space of a lot."""

from spotheights.matrices import echelon, row_sum
from spotheights.monomials import monomial_factorial, monomials_of_degree
from spotheights.polynomials import Polynomial
from spotheights.ratios import Ratio
from spotheights.spaces import Space


def least_space(lot):
    """The space of all combinations of lowest parts of weighted sums of the series."""
    return Space(lot.dimension, [member for member, _ in lowest_parts(lot)])


def least_rows(lot):
    """For each member of the least space's basis, weights with which the series have this lowest part."""
    return [row for _, row in lowest_parts(lot)]


def ranks(lot):
    """The ranks of the answers on the polynomials of degree at most 0, 1, 2, .., up to the first that is full."""
    counts = least_space(lot).counts()
    return [sum(counts[:k + 1]) for k in range(len(counts))]


def lowest_parts(lot):
    """Pairs of a member of the least space's canonical basis and weights that have it as their lowest part."""
    left = [[Ratio(int(i == k)) for k in range(len(lot))] for i in range(len(lot))]
    pairs = []
    degree = 0
    # What is left are weights without terms below the degree; questions are independent, so they all get terms.
    while left:
        places = monomials_of_degree(lot.dimension, degree)[::-1]
        found, left = _parted(lot, left, places)
        pairs.extend(found)
        degree = degree + 1
    return pairs


def _parted(lot, weight_lists, places):
    """The pairs for the degree of these monomials, and weights without terms in it that make up all the others."""
    # A space with parts of one degree each has as its canonical basis those of the single degrees, one by one;
    # the monomials come from the last to the first, so that the pivots are the heads.
    table = lot.table(places)
    rows = []
    for weights in weight_lists:
        answers = row_sum(weights, table, width=len(places))
        part = [number.over(monomial_factorial(place)) for place, number in zip(places, answers)]
        rows.append([*part, *weights])
    reduced, pivots, left = echelon(rows, len(places))
    pairs = []
    for row, pivot in zip(reduced, pivots):
        numbers = [Ratio(number, row[pivot]) for number in row]
        pairs.append((Polynomial(lot.dimension, list(zip(places, numbers))), numbers[len(places):]))
    return pairs[::-1], [[Ratio(number) for number in row[len(places):]] for row in left]

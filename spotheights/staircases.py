"""Plain lots at spots of a grid, and those whose spots are arranged like a lower set."""

from spotheights.checks import check_dimension, check_entries, check_index
from spotheights.errors import NotPlain
from spotheights.lots import Lot
from spotheights.matrices import common_bottom
from spotheights.ratios import Ratio
from spotheights.verdicts import Crossed, Stairs


def grid_lot(levels, monomials):
    """The lot of heights at the spots whose coordinates are the levels that the exponents of the monomials name."""
    check_dimension(len(levels))
    for exponents in monomials:
        check_entries(exponents, len(levels))
        for level, exponent in zip(levels, exponents):
            check_index(exponent, len(level))
    spots = [[level[exponent] for level, exponent in zip(levels, exponents)] for exponents in monomials]
    return Lot.heights(len(levels), spots)


def judge_staircase(lot):
    """A certificate that the plain lot is a staircase, or that it is not."""
    if not lot.plain:
        raise NotPlain("an operator is not a constant")
    crossing = _crossing(lot)
    if crossing is not None:
        return crossing
    # In a staircase the spots at a later level are among those at an earlier one, up to the level itself; so those at
    # levels with equally many spots are the same, and such levels may be exchanged.
    spots = [question.spot for question in lot]
    return Stairs(lot, [_levels([spot[k] for spot in spots]) for k in range(lot.dimension)])


def _crossing(lot):
    """A certificate with a crossed pair of questions, or None if there is no such pair."""
    for variable in range(lot.dimension):
        for second in range(len(lot)):
            for first in range(second):
                found = Crossed(lot, variable, first, second)
                if found.holds():
                    return found
    return None


def _levels(numbers):
    """The different numbers, those that stand more often first, ascending among those that stand equally often."""
    common = common_bottom(numbers)
    sizes = [number.top * (common // number.bottom) for number in numbers]
    ranked = {(-sizes.count(size), size): True for size in sizes}
    return [Ratio(size, common) for _, size in sorted(list(ranked))]

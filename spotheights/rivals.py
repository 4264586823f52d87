"""Other spaces than the least one: whether they fit a lot, and whether they raise degrees."""

from spotheights.checks import check_count, check_same
from spotheights.errors import NoFit
from spotheights.matrices import invert, kernel
from spotheights.monomials import monomials_up_to
from spotheights.polynomials import combination
from spotheights.verdicts import Fits, Gap, Keeps, Raises


def judge_fit(lot, space):
    """A certificate that the space fits the lot, or that it does not."""
    check_same(lot, space)
    members = list(space)
    rows = [lot.ask(member) for member in members]
    columns = [[row[k] for row in rows] for k in range(len(lot))]
    missed = kernel(columns, width=len(members))
    refuting = kernel(rows, width=len(lot))
    if not missed and not refuting:
        # Row k of the inverse has the coordinates of cardinal polynomial k.
        inverse = invert(rows)[1]
        return Fits(lot, space, [combination(lot.dimension, members, numbers) for numbers in inverse])
    member = combination(lot.dimension, members, missed[0]) if missed else None
    return Gap(lot, space, member, refuting[0] if refuting else None)


def fit_in(lot, space, answers):
    """The polynomial of the space with these answers."""
    cardinals = _cardinals(lot, space)
    check_count(answers, len(lot))
    return combination(lot.dimension, cardinals, answers)


def judge_degrees(lot, space):
    """A certificate that the space, which must fit, raises no monomial, or of the first one that it raises."""
    cardinals = _cardinals(lot, space)
    # Nothing in the space has a higher degree than the space, so no other monomial can be raised.
    greatest = space.degree - 1
    places = list(monomials_up_to(lot.dimension, greatest))
    table = lot.table(places)
    fitted = []
    for at, place in enumerate(places):
        polynomial = combination(lot.dimension, cardinals, [row[at] for row in table])
        if polynomial.degree > sum(place):
            return Raises(lot, space, place, polynomial)
        fitted.append(polynomial)
    return Keeps(lot, space, fitted)


def _cardinals(lot, space):
    """The cardinal polynomials of a space that fits; another one is refused."""
    found = judge_fit(lot, space)
    if not found.VERDICT:
        raise NoFit(found)
    return found.cardinals

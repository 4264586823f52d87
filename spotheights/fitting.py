"""Fits: the polynomials of the least space with told answers."""

from spotheights.certificates import LeastDegree
from spotheights.checks import check_count, check_index
from spotheights.leastspace import least_space, lowest_parts
from spotheights.matrices import invert, row_sum
from spotheights.polynomials import combination
from spotheights.ratios import Ratio, total


class Fitter:
    """The least space of a lot, ready to fit any answers."""

    def __init__(self, lot):
        self.lot = lot
        self.space = least_space(lot)
        # Row k has the coordinates of cardinal polynomial k.
        self._coordinates = invert([lot.ask(member) for member in self.space])[1]

    def __call__(self, answers):
        """The polynomial of the least space with these answers."""
        # What an operator may run cannot call an object, so the work is done by a method with a name.
        return self.fit_of(answers)

    def fit_of(self, answers):
        """The polynomial of the least space with these answers."""
        many = len(self.lot)
        check_count(answers, many)
        return combination(self.lot.dimension, list(self.space), row_sum(answers, self._coordinates, width=many))

    def cardinal(self, index):
        """The polynomial of the least space with the answer 1 to the question with this index and 0 to the others."""
        check_index(index, len(self.lot))
        return combination(self.lot.dimension, list(self.space), self._coordinates[index])

    def cardinals(self):
        """The list of the cardinal polynomials of all questions."""
        return [self.cardinal(index) for index in range(len(self.lot))]


def fit(lot, answers):
    """The polynomial of the least space with these answers."""
    return Fitter(lot).fit_of(answers)


def project(lot, polynomial):
    """The polynomial of the least space with the answers of the told one."""
    return fit(lot, lot.ask(polynomial))


def fit_certificate(lot, answers):
    """The fit, with weights that show that no polynomial with these answers has a lower degree."""
    polynomial = fit(lot, answers)
    return LeastDegree(lot, answers, polynomial, _seeing_weights(lot, answers, polynomial.degree))


def _seeing_weights(lot, answers, degree):
    """Weights that see the answers of a fit of this degree, but no polynomial of a lower degree."""
    # The top part of the fit is a combination of the members of its degree, so it is not orthogonal to all of them.
    for member, row in lowest_parts(lot):
        if member.degree == degree and total([weight * answer for weight, answer in zip(row, answers)]):
            return row
    return [Ratio(0) for _ in answers]

"""Certificates of what other spaces do, of closed lots and of staircases."""

from spotheights.calculus import derivative
from spotheights.certificates import Certificate, operator_sum
from spotheights.checks import GREATEST_DEGREE
from spotheights.monomials import has_all_divisors, monomials_up_to
from spotheights.polynomials import Polynomial
from spotheights.ratios import total


class Fits(Certificate):
    """The space fits the lot: it has a cardinal polynomial for each question and is no larger than it must be."""

    NAME = "fits"
    VERDICT = True

    def __init__(self, lot, space, cardinals):
        super().__init__(lot)
        self.space = space
        self.cardinals = list(cardinals)

    def holds(self):
        """Whether the cardinal polynomials are such, and as many as the members of the space and the questions."""
        many = len(self.lot)
        if not self._goes_together([self.space]) or len(self.space) != many or len(self.cardinals) != many:
            return False
        for k, polynomial in enumerate(self.cardinals):
            if polynomial not in self.space or self.lot.ask(polynomial) != [int(i == k) for i in range(many)]:
                return False
        return True

    def polynomials(self):
        """The cardinal polynomials."""
        return list(self.cardinals)


class Gap(Certificate):
    """The space does not fit the lot: a member has only zero answers, or its answers depend on each other, or both."""

    NAME = "gap"
    VERDICT = False

    def __init__(self, lot, space, member, weights):
        super().__init__(lot)
        self.space = space
        self.member = member
        self.weights = None if weights is None else list(weights)

    def holds(self):
        """Whether there is a member or a list of weights, and each that there is shows that the space does not fit."""
        if not self._goes_together([self.space]) or (self.member is None and self.weights is None):
            return False
        return self._member_is_missed() and self._weights_refute()

    def polynomials(self):
        """The member, if there is one."""
        return [] if self.member is None else [self.member]

    def weight_lists(self):
        """The weights, if there are any."""
        return [] if self.weights is None else [list(self.weights)]

    def _member_is_missed(self):
        """Whether the member, if there is one, is a nonzero polynomial of the space with all answers zero."""
        if self.member is None:
            return True
        return bool(self.member) and self.member in self.space and not any(self.lot.ask(self.member))

    def _weights_refute(self):
        """Whether the weights, if there are any, are not all zero and make the answers of each member add up to 0."""
        if self.weights is None:
            return True
        return any(self.weights) and not any([_weighed_answer(self.lot, self.weights, member) for member in self.space])


class Keeps(Certificate):
    """The space raises no monomial: each has a fit in the space of at most its degree."""

    NAME = "keeps"
    VERDICT = True

    def __init__(self, lot, space, fitted):
        super().__init__(lot)
        self.space = space
        self.fitted = list(fitted)

    def holds(self):
        """Whether each monomial below the degree of the space has a polynomial of the space that fits it."""
        if not self._goes_together([self.space]):
            return False
        greatest = self.space.degree - 1
        places = list(monomials_up_to(self.lot.dimension, greatest))
        if len(self.fitted) != len(places):
            return False
        for place, polynomial in zip(places, self.fitted):
            if polynomial.degree > sum(place) or not _is_fit(self.lot, self.space, place, polynomial):
                return False
        return True

    def polynomials(self):
        """The fits of the monomials."""
        return list(self.fitted)


class Raises(Certificate):
    """The space raises a monomial: the polynomial of the space with its answers has a higher degree."""

    NAME = "raises"
    VERDICT = False

    def __init__(self, lot, space, exponents, fitted):
        super().__init__(lot)
        self.space = space
        self.exponents = tuple(exponents)
        self.fitted = fitted

    def holds(self):
        """Whether the polynomial is of the space, has the answers of the monomial, and has a higher degree."""
        if not self._goes_together([self.space]):
            return False
        if len(self.exponents) != self.lot.dimension or min(self.exponents) < 0:
            return False
        degree = sum(self.exponents)
        if degree > GREATEST_DEGREE or self.fitted.degree <= degree:
            return False
        return _is_fit(self.lot, self.space, self.exponents, self.fitted)

    def polynomials(self):
        """The polynomial of the space."""
        return [self.fitted]


class Closed(Certificate):
    """The lot is closed: the tables tell how the derivatives of the operators are made up of the operators."""

    NAME = "closed"
    VERDICT = True

    def __init__(self, lot, tables):
        super().__init__(lot)
        self.tables = [[list(weights) for weights in table] for table in tables]

    def holds(self):
        """Whether there are weights for each variable and question, and they make up the derivative."""
        if not self._goes_together() or len(self.tables) != self.lot.dimension:
            return False
        for variable, table in enumerate(self.tables):
            if len(table) != len(self.lot):
                return False
            for question, weights in zip(self.lot, table):
                if not _makes_derivative(self.lot, weights, question, variable):
                    return False
        return True

    def weight_lists(self):
        """The lists of weights of all tables."""
        return [list(weights) for table in self.tables for weights in table]


class Spoiled(Certificate):
    """The lot is not closed: a variable times a polynomial with only zero answers has another answer than zero."""

    NAME = "spoiled"
    VERDICT = False

    def __init__(self, lot, polynomial, variable, index):
        super().__init__(lot)
        self.polynomial = polynomial
        self.variable = variable
        self.index = index

    def holds(self):
        """Whether the polynomial has only zero answers, and the variable times it is seen by the question."""
        dimension = self.lot.dimension
        if not self._goes_together() or not _is_index(self.variable, dimension):
            return False
        if not _is_index(self.index, len(self.lot)) or self.polynomial.degree >= GREATEST_DEGREE:
            return False
        if any(self.lot.ask(self.polynomial)):
            return False
        product = Polynomial.coordinate(dimension, self.variable) * self.polynomial
        return bool(self.lot.question_at(self.index).ask(product))

    def polynomials(self):
        """The polynomial with only zero answers."""
        return [self.polynomial]


class Stairs(Certificate):
    """The plain lot is a staircase: by the places of their coordinates the spots are a lower set."""

    NAME = "stairs"
    VERDICT = True

    def __init__(self, lot, levels):
        super().__init__(lot)
        self.levels = [list(level) for level in levels]

    def holds(self):
        """Whether the levels have all coordinates, none twice, and the places of the spots are a lower set."""
        if not self.lot.plain or len(self.levels) != self.lot.dimension:
            return False
        for level in self.levels:
            if [level.index(number) for number in level] != list(range(len(level))):
                return False
        places = []
        for question in self.lot:
            place = []
            for coordinate, level in zip(question.spot, self.levels):
                if coordinate not in level:
                    return False
                place.append(level.index(coordinate))
            places.append(tuple(place))
        return has_all_divisors(places)


class Crossed(Certificate):
    """The plain lot is not a staircase: exchanging a coordinate of two spots gives two spots without questions."""

    NAME = "crossed"
    VERDICT = False

    def __init__(self, lot, variable, first, second):
        super().__init__(lot)
        self.variable = variable
        self.first = first
        self.second = second

    def holds(self):
        """Whether the two questions are a crossed pair for the variable."""
        many = len(self.lot)
        if not self.lot.plain or not _is_index(self.variable, self.lot.dimension):
            return False
        if not _is_index(self.first, many) or not _is_index(self.second, many):
            return False
        spots = [question.spot for question in self.lot]
        one = spots[self.first]
        two = spots[self.second]
        k = self.variable
        return (*one[:k], two[k], *one[k + 1:]) not in spots and (*two[:k], one[k], *two[k + 1:]) not in spots


def _is_index(index, many):
    """Whether the index is one of so many things."""
    return index >= 0 and index < many


def _weighed_answer(lot, weights, polynomial):
    """The weighted sum of the answers of the polynomial."""
    return total([weight * answer for weight, answer in zip(weights, lot.ask(polynomial))])


def _is_fit(lot, space, exponents, polynomial):
    """Whether the polynomial is of the space and has the same answers as the monomial."""
    return polynomial in space and lot.ask(polynomial) == [row[0] for row in lot.table([exponents])]


def _makes_derivative(lot, weights, question, variable):
    """Whether the operators at the question's spot, times their weights, make up the derivative of its operator."""
    for weight, other in zip(weights, lot):
        if weight and other.spot != question.spot:
            return False
    return operator_sum(lot, weights, question.spot) == derivative(question.operator, variable)

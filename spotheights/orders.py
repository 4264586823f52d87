"""Orders of monomials."""

from spotheights.checks import DIMENSIONS, check_entries
from spotheights.errors import BadOrder, BadText
from spotheights.polynomials import VARIABLES

BY_DEGREE = "degree"
BY_VARIABLES = "variables"


class Order:
    """An arrangement of the monomials: by degrees first, or by the exponents of the variables alone."""

    def __init__(self, kind, ranking):
        if kind != BY_DEGREE and kind != BY_VARIABLES:
            raise BadOrder("the kind is unknown")
        dimension = len(ranking)
        if dimension < 1 or dimension > DIMENSIONS or sorted(list(ranking)) != list(range(dimension)):
            raise BadOrder("the ranking has not each variable once")
        self.kind = kind
        self.ranking = tuple(ranking)
        self.dimension = dimension

    def precedes(self, first, second):
        """Whether the first monomial comes before the second one."""
        return self._place(first) < self._place(second)

    def arranged(self, monomials):
        """A new list of the monomials, ascending."""
        return sorted(list(monomials), key=self._place)

    def _place(self, exponents):
        """A tuple that is less for a monomial that comes earlier."""
        check_entries(exponents, self.dimension)
        ranked = [exponents[index] for index in self.ranking]
        if self.kind == BY_DEGREE:
            return (sum(ranked), *[-exponent for exponent in ranked])
        return tuple(ranked)

    def __eq__(self, other):
        return isinstance(other, Order) and self.kind == other.kind and self.ranking == other.ranking

    def __str__(self):
        return " ".join([self.kind, "".join([VARIABLES[index] for index in self.ranking])])


def read_order(text):
    """The order with this written form."""
    kind, _, letters = text.partition(" ")
    if len(letters) > DIMENSIONS or not all([letter in VARIABLES for letter in letters]):
        raise BadText(text)
    ranking = [VARIABLES.index(letter) for letter in letters]
    try:
        return Order(kind, ranking)
    except BadOrder:
        raise BadText(text) from None

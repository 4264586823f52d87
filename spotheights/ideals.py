"""Ideals: the polynomials with all answers zero for a closed lot, by an order of the monomials."""

from spotheights.checks import check_same
from spotheights.closure import closure_tables
from spotheights.errors import NotDegree
from spotheights.matrices import invert, row_sum, solve
from spotheights.monomials import divides, monomials_up_to, next_multiples
from spotheights.orders import BY_DEGREE
from spotheights.polynomials import Polynomial
from spotheights.ratios import Ratio


class Ideal:
    """The polynomials with all answers zero, with a basis and the normal monomials of an order."""

    def __init__(self, lot, order):
        closure_tables(lot)
        check_same(lot, order)
        normal, heads, basis = _sorted_out(lot, order)
        self.lot = lot
        self.order = order
        self.dimension = lot.dimension
        self._normal = normal
        self._heads = heads
        self._basis = basis
        # Row k has the numbers with which the normal monomials have the answer 1 to question k and 0 to the others.
        table = lot.table(normal)
        self._coordinates = invert([[row[k] for row in table] for k in range(len(normal))])[1]

    def normal_monomials(self):
        """The list of the normal monomials, ascending in the order."""
        return list(self._normal)

    def basis(self):
        """The list of the basis polynomials, ascending in the order by their heads."""
        return list(self._basis)

    def heads(self):
        """The list of the last monomials, by the order of the ideal, of the basis polynomials."""
        return list(self._heads)

    def __contains__(self, polynomial):
        return polynomial.dimension == self.dimension and not any(self.lot.ask(polynomial))

    def rest(self, polynomial):
        """The only combination of normal monomials with the answers of the polynomial."""
        numbers = row_sum(self.lot.ask(polynomial), self._coordinates, width=len(self._normal))
        return Polynomial(self.dimension, list(zip(self._normal, numbers)))

    def multipliers(self, polynomial):
        """Polynomials, one for each of the basis, whose products with it add up to the polynomial minus its rest."""
        self._check_by_degree()
        check_same(self, polynomial)
        numbers = {place: number for place, number in polynomial.terms()}
        terms = [[] for _ in self._basis]
        places = list(monomials_up_to(self.dimension, polynomial.degree))
        # From the last monomial to the first, since taking away a head brings in earlier monomials alone.
        for place in self.order.arranged(places)[::-1]:
            at = _first_divisor(self._heads, place)
            number = numbers.get(place, Ratio(0))
            if at is not None and number:
                factor = tuple([high - low for low, high in zip(self._heads[at], place)])
                terms[at].append((factor, number))
                for lower, other in self._basis[at].terms():
                    product = tuple([one + more for one, more in zip(factor, lower)])
                    numbers[product] = numbers.get(product, Ratio(0)) - number * other
        return [Polynomial(self.dimension, pairs) for pairs in terms]

    def tops(self):
        """The list of the top parts of the basis polynomials."""
        self._check_by_degree()
        return [polynomial.top_part() for polynomial in self._basis]

    def _check_by_degree(self):
        """Refuse an order in which a monomial of a higher degree can come first."""
        if self.order.kind != BY_DEGREE:
            raise NotDegree("the order is not by degree")


def _sorted_out(lot, order):
    """The normal monomials, the heads and the basis polynomials, each list ascending in the order."""
    normal = []
    heads = []
    basis = []
    places = [(0,) * lot.dimension]
    while places:
        place = order.arranged(places)[0]
        right = [row[0] for row in lot.table([place])]
        found, numbers = solve(lot.table(normal), right, width=len(normal))
        if found:
            heads.append(place)
            rest = Polynomial(lot.dimension, list(zip(normal, numbers)))
            basis.append(Polynomial(lot.dimension, [(place, Ratio(1))]) - rest)
        else:
            normal.append(place)
        places = _next_places(normal, heads)
    return normal, heads, basis


def _next_places(normal, heads):
    """The multiples of normal monomials by one variable that are neither normal nor multiples of a head."""
    found = {}
    for place in normal:
        for above in next_multiples(place):
            if above not in normal and _first_divisor(heads, above) is None:
                found[above] = True
    return list(found)


def _first_divisor(heads, place):
    """The index of the first of the heads that divides the monomial, or None."""
    for at, head in enumerate(heads):
        if divides(head, place):
            return at
    return None

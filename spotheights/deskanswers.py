"""What the lines that only ask a desk's survey write."""

from spotheights.closure import judge_closure
from spotheights.ideals import Ideal
from spotheights.lowersets import fitting_sets
from spotheights.membership import belonging
from spotheights.newton import newton_basis
from spotheights.polynomials import VARIABLES, Polynomial
from spotheights.staircases import judge_staircase
from spotheights.weights import exact_degree, weights_for

NAME_WIDTH = 8
NOTHING = "empty"


def _lot_lines(survey, things):
    """The questions with their names and told answers."""
    lines = []
    for name in survey:
        line = f"{name.ljust(NAME_WIDTH)} {survey.question_of(name)}"
        if survey[name] is not None:
            line = f"{line} = {survey[name]}"
        lines.append(line)
    return lines or [NOTHING]


def _script_lines(survey, things):
    """Lines that make the same questions, names, order and told answers at a new desk."""
    lines = []
    for name in survey:
        lines.append(f"put {name} {survey.question_of(name)}")
        if survey[name] is not None:
            lines.append(f"tell {name} {survey[name]}")
    return lines


def _space_lines(survey, things):
    """The members of the least space."""
    return [str(member) for member in survey.least()] or [NOTHING]


def _counts_lines(survey, things):
    """The counts of the least space."""
    return [" ".join([str(count) for count in survey.least().counts()]) or NOTHING]


def _fit_lines(survey, things):
    """The fit of the told answers."""
    return [str(survey.fit())]


def _newton_lines(survey, things):
    """The Newton polynomials with the names of their questions."""
    basis = newton_basis(survey.as_lot())
    return [f"{name.ljust(NAME_WIDTH)} {polynomial}" for name, polynomial in zip(survey, basis)] or [NOTHING]


def _belongs_lines(survey, things):
    """Whether the polynomial belongs to the least space."""
    found = belonging(survey.as_lot(), things[0])
    return ["yes"] if found.VERDICT else [f"no: {found.obstruction}"]


def _weights_lines(survey, things):
    """The weights for the question, and the degree up to which they are exact."""
    lot = survey.as_lot()
    question = things[0]
    degree = exact_degree(lot, question)
    word = "all" if degree is None else str(degree)
    return [" ".join(["degree", word, "weights", *[str(number) for number in weights_for(lot, question)]])]


def _closed_lines(survey, things):
    """Whether the lot is closed."""
    found = judge_closure(survey.as_lot())
    if found.VERDICT:
        return ["yes"]
    name = list(survey)[found.index]
    return [f"no: {name} {VARIABLES[found.variable]} {found.polynomial}"]


def _normal_lines(survey, things):
    """The normal monomials of the order."""
    ideal = Ideal(survey.as_lot(), things[0])
    return [_written_monomials(ideal.normal_monomials())]


def _basis_lines(survey, things):
    """The basis of the ideal of the order."""
    ideal = Ideal(survey.as_lot(), things[0])
    return [str(polynomial) for polynomial in ideal.basis()]


def _sets_lines(survey, things):
    """The lower sets that fit."""
    lot = survey.as_lot()
    return [_written_monomials(lower) for lower in fitting_sets(lot)] or ["none"]


def _stairs_lines(survey, things):
    """Whether the lot is a staircase."""
    found = judge_staircase(survey.as_lot())
    if found.VERDICT:
        return ["yes"]
    names = list(survey)
    return [f"no: {names[found.first]} {names[found.second]} {VARIABLES[found.variable]}"]


def _written_monomials(monomials):
    """The monomials in one line."""
    return ", ".join([str(Polynomial.monomial(exponents)) for exponents in monomials]) or NOTHING


ANSWERS = {
    "lot": _lot_lines,
    "script": _script_lines,
    "space": _space_lines,
    "counts": _counts_lines,
    "fit": _fit_lines,
    "newton": _newton_lines,
    "belongs": _belongs_lines,
    "weights": _weights_lines,
    "closed": _closed_lines,
    "normal": _normal_lines,
    "basis": _basis_lines,
    "sets": _sets_lines,
    "stairs": _stairs_lines,
}

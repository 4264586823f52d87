"""Weighted sums of the series of questions, degree by degree."""

from spotheights.matrices import row_sum
from spotheights.monomials import monomial_factorial, monomials_of_degree
from spotheights.polynomials import Polynomial


def weighted_part(dimension, questions, weights, degree):
    """The part of this degree of the sum of the series of the questions, each times its weight."""
    places = monomials_of_degree(dimension, degree)
    asked = [(weight, question) for weight, question in zip(weights, questions) if weight]
    rows = [question.answers_to(places) for _, question in asked]
    sums = row_sum([weight for weight, _ in asked], rows, width=len(places))
    terms = [(place, number.over(monomial_factorial(place))) for place, number in zip(places, sums)]
    return Polynomial(dimension, terms)


def vanishes_below(dimension, questions, weights, degree):
    """Whether the weighted sum of the series has no terms below this degree."""
    for lower in range(degree):
        if weighted_part(dimension, questions, weights, lower):
            return False
    return True

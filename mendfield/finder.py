"""Root sums of words, the finder of places, and the signs at places by root sums."""

from mendfield.polys import poly_times, value_at
from mendfield.solving import solved


def root_sums(field, first, extra, word):
    """The values of the word, taken as a polynomial, at the step to the powers first to first + extra - 1."""
    return [value_at(field, word, field.step_power(first + i)) for i in range(extra)]


def place_finder(field, places):
    """The product of 1 - a X over the places, a being the step to the power of the place."""
    finder = [1]
    for place in places:
        finder = poly_times(field, finder, [1, field.minus(0, field.step_power(place))])
    return finder


def places_in(field, finder, length):
    """The places below the length that the finder finds, rising."""
    return [place for place in range(length) if value_at(field, finder, field.step_power(-place)) == 0]


def signs_at(field, first, places, sums):
    """The signs that at these places, with 0 else, have just these root sums; None where there are none."""
    if places == []:
        # A table has a column at least: without places only sums that are all 0 are made.
        return [] if all([x == 0 for x in sums]) else None
    table = [[field.step_power((first + i) * place) for place in places] for i in range(len(sums))]
    return solved(field, table, sums)

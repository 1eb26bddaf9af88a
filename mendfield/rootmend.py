"""The root nearest: mending a word with wrong and lost signs by its root sums."""

from mendfield.finder import place_finder, places_in, root_sums, signs_at
from mendfield.rules import off_at, shortest
from mendfield.signs import lost_places, noughts_for_lost, taken_off


def wrong_places(field, lost, sums, length):
    """The places of the wrong signs beside the lost ones, None where too many are wrong for these sums."""
    known = place_finder(field, lost)
    # What the lost signs add to the sums keeps the rule of their finder, so by it only the wrong ones are left.
    left = [off_at(field, sums, known, i) for i in range(len(lost), len(sums))]
    rule = shortest(field, left)
    if 2 * rule[0] > len(left):
        return None
    found = places_in(field, rule[1], length)
    if len(found) != rule[0] or any([place in lost for place in found]):
        return None
    return found


def root_nearest(field, first, extra, word):
    """The word with all root sums 0 that differs at e of the places not lost, f lost, 2e + f not above extra."""
    lost = lost_places(word)
    if len(lost) > extra:
        return None
    known = noughts_for_lost(word)
    sums = root_sums(field, first, extra, known)
    wrong = wrong_places(field, lost, sums, len(word))
    if wrong is None:
        return None
    places = lost + wrong
    signs = signs_at(field, first, places, sums)
    return None if signs is None else taken_off(field, known, places, signs)

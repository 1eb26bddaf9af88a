"""The near row: mending a word with wrong and lost signs by looking at sets of columns."""

from mendfield.columns import is_nought, past
from mendfield.signs import lost_places, noughts_for_lost, taken_off
from mendfield.solving import solved
from mendfield.tables import by_column, picked, turned


def numbers_within(field, columns, due, most):
    """The numbers of at most so many columns of which due is a sum of multiples, rising; None where there are none."""
    if is_nought(due):
        return []
    if most == 0:
        return None
    for number, column in enumerate(columns):
        if not is_nought(column):
            # Where only one more may be taken, those behind it need no looking at.
            behind = columns[number + 1:] if most > 1 else []
            further = past(field, column, behind + [due])
            found = numbers_within(field, further[:-1], further[-1], most - 1)
            if found is not None:
                return [number] + [number + 1 + k for k in found]
    return None


def past_lost(field, columns, lost):
    """The columns up to sums of multiples of those at the lost places."""
    for place in lost:
        if not is_nought(columns[place]):
            columns = past(field, columns[place], columns)
    return columns


def wrong_places(field, table, lost, sums, most):
    """At most so many places, beside the lost ones, whose signs can have made these sums; None without such."""
    columns = past_lost(field, turned(table) + [sums], lost)
    others = [place for place in range(len(columns) - 1) if place not in lost]
    numbers = numbers_within(field, [columns[place] for place in others], columns[-1], most)
    return None if numbers is None else [others[number] for number in numbers]


def near_row(field, table, room, word):
    """The row sent to 0 that differs at e of the places not lost, f being lost, with 2e + f below the room."""
    lost = lost_places(word)
    if len(lost) >= room:
        return None
    known = noughts_for_lost(word)
    sums = by_column(field, table, known)
    wrong = wrong_places(field, table, lost, sums, (room - 1 - len(lost)) // 2)
    if wrong is None:
        return None
    places = lost + wrong
    if places == []:
        return known
    return taken_off(field, known, places, solved(field, picked(table, places), sums))

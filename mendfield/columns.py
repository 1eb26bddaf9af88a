"""Sets of columns of a table: the first bound set and the lightest row."""

from mendfield.tables import kernel, picked, turned, width_of


def is_nought(column):
    """Whether a column is all 0."""
    return all([x == 0 for x in column])


def sets_of(width, size):
    """All sets of so many of the places below width, in their order."""
    sets = [[]]
    for turn in range(size):
        larger = []
        for places in sets:
            begin = places[-1] + 1 if places != [] else 0
            larger.extend([places + [place] for place in range(begin, width)])
        sets = larger
    return sets


def past(field, column, others):
    """The others up to multiples of column, which is not all 0; each is told by one element fewer.

    Some of the others are dependent with column just where these are dependent.
    """
    place = [k for k, x in enumerate(column) if x != 0][0]
    inverse = field.over(1, column[place])
    found = []
    for other in others:
        left = field.lessened(other, field.times(other[place], inverse), column)
        found.append(left[:place] + left[place + 1:])
    return found


def first_bound(field, table):
    """The first set of places whose columns are dependent, None where there is none."""
    width = width_of(table)
    # The sets of one size in their order, each with the columns behind its last place, up to multiples of its own.
    sets = [([], turned(table))]
    while sets != []:
        larger = []
        for places, behind in sets:
            for number, column in enumerate(behind):
                bigger = places + [width - len(behind) + number]
                if is_nought(column):
                    return bigger
                larger.append((bigger, past(field, column, behind[number + 1:])))
        sets = larger
    return None


def lightest_row(field, table):
    """The row sent to 0 that is not 0 just at the first bound set, with 1 at its first place; None without one."""
    places = first_bound(field, table)
    if places is None:
        return None
    # All smaller sets are independent, so there is one row up to multiples, and it is nowhere 0.
    signs = kernel(field, picked(table, places))[0]
    inverse = field.over(1, signs[0])
    row = [0] * width_of(table)
    for place, sign in zip(places, field.scaled(inverse, signs)):
        row[place] = sign
    return row

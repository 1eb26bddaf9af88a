"""Solving over a field: what a table sends to what is due, a reason why not, the way back."""

from mendfield.tables import leads, reduced, turned, width_of


def with_due(table, due):
    """The table with what is due as one more column."""
    return [row + [x] for row, x in zip(table, due)]


def solved(field, table, due):
    """The row x with table times x = due that has 0 at each place that is no lead's; None where there is none."""
    width = width_of(table)
    rows = reduced(field, with_due(table, due))
    taken = leads(rows)
    if width in taken:
        return None
    x = [0] * width
    for lead, row in zip(taken, rows):
        x[lead] = row[width]
    return x


def reason(field, table, due):
    """A row y with y times table all 0 and y times due 1; None where the table can be solved."""
    wanted = [0] * width_of(table) + [1]
    # The due stands as the last column, so y times it is told by the last row of the turned table.
    return solved(field, turned(with_due(table, due)), wanted)


def unit_row(width, place):
    """The row with 1 at this place and 0 else."""
    return [1 if j == place else 0 for j in range(width)]


def way_back(field, table):
    """A table that times this one has 1 where row and column are alike and 0 else; None where there is none."""
    width = width_of(table)
    beside = [row + unit_row(len(table), i) for i, row in enumerate(table)]
    rows = reduced(field, beside)[:width]
    if leads(rows) != list(range(width)):
        return None
    return [row[width:] for row in rows]

"""Tables over a field: lists of rows, all alike long; a row or a column alone is a list."""


def width_of(table):
    """How many columns a table has."""
    return len(table[0]) if table != [] else 0


def turned(table):
    """Rows to columns."""
    return [[row[j] for row in table] for j in range(width_of(table))]


def product(field, one, other):
    """One table times the other."""
    columns = turned(other)
    return [[field.dot(row, column) for column in columns] for row in one]


def picked(table, places):
    """The table of the columns at these places, in their order."""
    return [[row[j] for j in places] for row in table]


def row_by(field, row, table):
    """Row times table."""
    return [field.dot(row, column) for column in turned(table)]


def by_column(field, table, column):
    """Table times column."""
    return [field.dot(row, column) for row in table]


def first_with(rows, place):
    """The number of the first row that has not 0 at this place, None where there is none."""
    for number, row in enumerate(rows):
        if row[place] != 0:
            return number
    return None


def cleared(field, rows, lead_row, place):
    """The rows less such multiples of lead_row, which has 1 at this place, that they have 0 there."""
    return [field.lessened(row, row[place], lead_row) for row in rows]


def reduced(field, table):
    """The reduced rows of a table."""
    done = []
    left = table
    for place in range(width_of(table)):
        number = first_with(left, place)
        if number is not None:
            lead_row = field.scaled(field.over(1, left[number][place]), left[number])
            left = cleared(field, left[:number] + left[number + 1:], lead_row, place)
            done = cleared(field, done, lead_row, place) + [lead_row]
    return done


def leads(rows):
    """The place of each row's first element that is not 0."""
    return [[place for place, x in enumerate(row) if x != 0][0] for row in rows]


def rank(field, table):
    """How many reduced rows a table has."""
    return len(reduced(field, table))


def free_places(rows, width):
    """The places that are no lead's of these reduced rows, rising."""
    taken = leads(rows)
    return [place for place in range(width) if place not in taken]


def kernel_of_reduced(field, rows, width):
    """The kernel by the reduced rows of a table of so many columns."""
    taken = leads(rows)
    found = []
    for free in free_places(rows, width):
        x = [0] * width
        x[free] = 1
        for lead, row in zip(taken, rows):
            x[lead] = field.minus(0, row[free])
        found.append(x)
    return found


def kernel(field, table):
    """The rows that the table sends to 0, one for each place that is no lead's."""
    return kernel_of_reduced(field, reduced(field, table), width_of(table))

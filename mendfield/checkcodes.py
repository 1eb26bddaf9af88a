"""Codes by checks: the words that any small table sends to 0."""

from mendfield.codes import Code
from mendfield.columns import first_bound
from mendfield.errors import NoCode
from mendfield.searchmend import near_row
from mendfield.tables import rank


def is_small_table(field, table):
    """Whether these are 1 to 12 rows of 2 to 12 elements, all alike long."""
    if len(table) < 1 or len(table) > 12:
        return False
    width = len(table[0])
    if width < 2 or width > 12 or any([len(row) != width for row in table]):
        return False
    return all([all([field.holds(x) for x in row]) for row in table])


class CheckCode(Code):
    """The code whose checks are a table as it was handed in."""

    def __init__(self, field, table):
        if not is_small_table(field, table):
            raise NoCode("a code by checks is made of 1 to 12 rows of 2 to 12 elements, all alike long")
        if rank(field, table) == len(table[0]):
            raise NoCode("a code by checks has dependent columns")
        Code.__init__(self, field, table)
        self.bound = len(first_bound(field, table))

    def distance(self):
        """The size of the first bound set of the checks."""
        return self.bound

    def nearest(self, word):
        """The near word of one whose signs are elements or lost, None where there is none."""
        return near_row(self.field, self.check_rows, self.bound, word)

    def told(self):
        """The code as a text."""
        rows = [" ".join([str(x) for x in row]) for row in self.check_rows]
        return "checks " + "/".join(rows)

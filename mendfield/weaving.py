"""Weaving rows of signs into one list and back, and cutting a list into rows."""

from mendfield.errors import NoRows
from mendfield.polys import filled


def woven(rows):
    """The first sign of each row, in the rows' order, then the second ones, and so on."""
    if rows == []:
        raise NoRows("there are no rows to weave")
    length = len(rows[0])
    if any([len(row) != length for row in rows]):
        raise NoRows("rows that are woven are alike long")
    signs = []
    for j in range(length):
        signs.extend([row[j] for row in rows])
    return signs


def unwoven(signs, many):
    """The rows of which so many were woven to these signs."""
    if many < 1 or len(signs) % many != 0:
        raise NoRows("so many rows were not woven to these signs")
    return [signs[i::many] for i in range(many)]


def cut_rows(signs, size):
    """The signs in rows of this size, the last one filled with 0."""
    return [filled(signs[begin:begin + size], size) for begin in range(0, len(signs), size)]

"""Papers: a lightest word of a code, and what shows that there is no lighter one."""

from mendfield.columns import is_nought, lightest_row, sets_of
from mendfield.errors import TooLarge
from mendfield.solving import unit_row, way_back
from mendfield.tables import picked, product


def refuse_large(code):
    """Refuses a code of more than twelve signs."""
    if code.length > 12:
        raise TooLarge("this is told of codes of at most twelve signs")


def lightest(code):
    """A lightest word of the code that is not 0."""
    refuse_large(code)
    return lightest_row(code.field, code.checks())


def paper(code):
    """The tuples (places, back), one for each set of distance less one places, in their order."""
    refuse_large(code)
    checks = code.checks()
    sets = sets_of(code.length, code.distance() - 1)
    return [(places, way_back(code.field, picked(checks, places))) for places in sets]


def is_way_back(field, back, columns):
    """Whether back is a way back of the columns, a list of the rows of a table."""
    width = len(columns[0])
    if len(back) != width:
        return False
    for row in back:
        if len(row) != len(columns) or not all([field.holds(x) for x in row]):
            return False
    return product(field, back, columns) == [unit_row(width, i) for i in range(width)]


def is_paper(code, word, told):
    """Whether a word and a paper stand for the distance of the code."""
    refuse_large(code)
    if not code.is_word(word) or is_nought(word):
        return False
    sets = sets_of(code.length, code.length - word.count(0) - 1)
    if [part[0] for part in told] != sets:
        return False
    checks = code.checks()
    for places, back in told:
        if not is_way_back(code.field, back, picked(checks, places)):
            return False
    return True

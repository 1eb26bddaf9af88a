"""What several tests share: fields to try, words to look at, and the asking that holds for everything (point 2)."""

import copy
import itertools
import random

from mendfield.errors import MendError
from mendfield.fields import BitField, PrimeField

TWO = PrimeField(2)
THREE = PrimeField(3)
FOUR = BitField(7)
FIVE = PrimeField(5)
SEVEN = PrimeField(7)
EIGHT = BitField(11)
SIXTEEN = BitField(19)
SIXTEEN_STEP_3 = BitField(31)
SIXTY_ONE = PrimeField(61)
SIXTY_FOUR = BitField(67)

FIELDS = (TWO, THREE, FOUR, FIVE, SEVEN, EIGHT, SIXTEEN, SIXTEEN_STEP_3, SIXTY_ONE, SIXTY_FOUR)
SMALL = tuple(field for field in FIELDS if field.many <= 8)


def chance(*seed):
    """Numbers that look like chance but are the same in each run."""
    return random.Random(repr(seed))


def some_row(field, length, turn):
    return [turn.randrange(field.many) for place in range(length)]


def some_table(field, height, width, turn):
    return [some_row(field, width, turn) for row in range(height)]


def unit_table(size):
    return [[1 if i == j else 0 for j in range(size)] for i in range(size)]


def all_words(field, length):
    """Every list of so many elements."""
    return [list(word) for word in itertools.product(range(field.many), repeat=length)]


def plain_by_column(field, table, column):
    """Table times column, by plus and times alone."""
    found = []
    for row in table:
        total = 0
        for x, y in zip(row, column):
            total = field.plus(total, field.times(x, y))
        found.append(total)
    return found


def plain_words(field, table):
    """All rows that a table sends to 0, by looking at each."""
    return [word for word in all_words(field, len(table[0])) if not any(plain_by_column(field, table, word))]


def weight(word):
    return sum(1 for sign in word if sign != 0)


def distance_of(words):
    """The least weight of the words that are not 0 (the words being all that a table sends to 0)."""
    return min(weight(word) for word in words if any(word))


def near_ones(words, word, room):
    """Those words that differ at e places that are not lost, f being lost, with 2e + f below the room."""
    lost = sum(1 for sign in word if sign is None)
    found = []
    for other in words:
        wrong = sum(1 for x, y in zip(word, other) if x is not None and x != y)
        if 2 * wrong + lost < room:
            found.append(other)
    return found


def spoilt(field, word, wrong, lost, turn):
    """The word with so many wrong and lost signs."""
    found = list(word)
    places = turn.sample(range(len(word)), wrong + lost)
    for place in places[:wrong]:
        found[place] = field.plus(word[place], turn.randrange(1, field.many))
    for place in places[wrong:]:
        found[place] = None
    return found


def lists_in(value):
    """Every list within a value, itself among them."""
    found = []
    if isinstance(value, (list, tuple)):
        if isinstance(value, list):
            found.append(value)
        for part in value:
            found += lists_in(part)
    return found


def asked(test, call, *handed):
    """The answer, or the error that refuses; and point 2 of it.

    What was handed in stays; no list that is told is one that was handed in, or told twice; and what the asker
    does with what was told changes no other answer.
    """
    before = copy.deepcopy([value for value in handed if isinstance(value, (list, tuple))])
    answers = []
    for turn in range(2):
        try:
            answers.append(call(*handed))
        except MendError as error:
            answers.append(error)
        test.assertEqual([value for value in handed if isinstance(value, (list, tuple))], before, "handed in")
    first, second = answers
    if isinstance(first, MendError):
        test.assertIs(type(first), type(second))
        test.assertEqual(vars(first), vars(second))
        raise first
    test.assertEqual(first, second, "asked twice")
    own = [id(part) for part in lists_in(first)]
    test.assertEqual(len(own), len(set(own)), "one list told twice")
    others = [id(part) for part in lists_in(second)]
    for value in handed:
        others += [id(part) for part in lists_in(value)]
    test.assertFalse(set(own) & set(others), "a list that is not the asker's own")
    told = copy.deepcopy(first)
    for part in lists_in(first):
        part.append("spoilt")
        part.reverse()
    test.assertEqual(second, told, "changed by the asker's doing")
    test.assertEqual(call(*handed), told, "changed for later askers")
    return second

"""Point 27, and 2 for it: the near row."""

import itertools
import unittest

from helpers import (EIGHT, FIELDS, FIVE, FOUR, SEVEN, SIXTY_FOUR, SIXTY_ONE, THREE, TWO, asked, chance, near_ones,
                     plain_by_column, plain_words, some_row, some_table, spoilt, unit_table)
from mendfield.columns import first_bound
from mendfield.searchmend import near_row
from mendfield.tables import kernel


def rooms(field, table):
    bound = first_bound(field, table)
    return range(1, 14 if bound is None else len(bound) + 1)


def some_word_of(field, table, turn):
    """A sum of multiples of the kernel's rows."""
    word = [0] * len(table[0])
    for row in kernel(field, table):
        word = field.lessened(word, turn.randrange(field.many), row)
    return word


class AllWords(unittest.TestCase):
    def check_all(self, field, table, handed):
        words = plain_words(field, table)
        for room in rooms(field, table):
            for word in handed:
                near = near_ones(words, word, room)
                self.assertLessEqual(len(near), 1)
                told = asked(self, near_row, field, table, room, list(word))
                self.assertEqual(told, near[0] if near else None, (field.told(), table, room, word))

    def test_each_word(self):
        for field, width, turns in ((TWO, 5, 6), (THREE, 3, 6), (FOUR, 3, 4), (FIVE, 3, 2)):
            turn = chance("each word", field.told())
            handed = list(itertools.product([None] + list(range(field.many)), repeat=width))
            for one in range(turns):
                self.check_all(field, some_table(field, turn.randrange(1, 4), width, turn), handed)
            # The same sign everywhere: the largest distance.
            less = field.minus(0, 1)
            self.check_all(field, [[0] * i + [1] + [0] * (width - 2 - i) + [less] for i in range(width - 1)], handed)
            self.check_all(field, unit_table(width), handed[::3])

    def test_some_words(self):
        for field in (SEVEN, EIGHT):
            turn = chance("some words", field.told())
            table = [[field.power(x, k) for x in range(1, 5)] for k in range(3)]
            handed = []
            for turns in range(60):
                word = some_row(field, 4, turn)
                for place in turn.sample(range(4), turn.randrange(4)):
                    word[place] = None
                handed.append(word)
            self.check_all(field, table, handed)


class TwelveColumns(unittest.TestCase):
    def tables(self, field):
        less = field.minus(0, 1)
        found = [[[0] * i + [1] + [0] * (10 - i) + [less] for i in range(11)]]
        if field.many > 12:
            found += [[[field.power(x, k) for x in range(1, 13)] for k in range(height)] for height in (4, 7, 10)]
        turn = chance("tables", field.told())
        return found + [some_table(field, 8, 12, turn)]

    def test_just_below_the_room_and_just_at_it(self):
        for field in FIELDS:
            turn = chance("just below", field.told())
            for table in self.tables(field):
                room = max(rooms(field, table))
                for wrong in range((room - 1) // 2 + 1):
                    lost = room - 1 - 2 * wrong
                    word = some_word_of(field, table, turn)
                    handed = spoilt(field, word, wrong, lost, turn)
                    self.assertEqual(asked(self, near_row, field, table, room, handed), word)
                    self.assertEqual(near_row(field, table, room, word), word)
                    if room > 1:
                        # The same word in a room that is one less: 2e + f is just at it.
                        self.assertIsNone(asked(self, near_row, field, table, room - 1, handed))
                    if wrong + lost < 12:
                        further = spoilt(field, word, wrong, lost + 1, turn)
                        told = near_row(field, table, room, further)
                        self.assertTrue(told is None or near_ones([told], further, room) == [told])
                        self.assertNotEqual(told, word)

    def test_all_lost(self):
        for field in FIELDS:
            for table in self.tables(field):
                for room in rooms(field, table):
                    due = [0] * 12 if room == 13 else None
                    self.assertEqual(asked(self, near_row, field, table, room, [None] * 12), due)

    def test_room_1(self):
        for field in FIELDS:
            turn = chance("room 1", field.told())
            for table in self.tables(field):
                word = some_word_of(field, table, turn)
                self.assertEqual(asked(self, near_row, field, table, 1, word), word)
                other = list(word)
                other[5] = field.plus(other[5], 1)
                if any(plain_by_column(field, table, other)):
                    self.assertIsNone(asked(self, near_row, field, table, 1, other))
                self.assertIsNone(asked(self, near_row, field, table, 1, word[:11] + [None]))

    def test_independent_columns(self):
        # Only the word 0 is sent to 0.
        for field in (TWO, FOUR, SEVEN, SIXTY_ONE, SIXTY_FOUR):
            top = field.many - 1
            for room in range(1, 14):
                for wrong in range(7):
                    for lost in (0, 1, 3, 12 - wrong):
                        word = [top] * wrong + [0] * (12 - wrong - lost) + [None] * lost
                        due = [0] * 12 if 2 * wrong + lost < room else None
                        self.assertEqual(near_row(field, unit_table(12), room, word), due, (room, word))

    def test_a_column_of_0s(self):
        for field in FIELDS:
            table = [[1, 0, 1], [0, 0, 1]]
            for sign in (0, field.many - 1):
                self.assertEqual(asked(self, near_row, field, table, 1, [0, sign, 0]), [0, sign, 0])
                self.assertIsNone(asked(self, near_row, field, table, 1, [1, sign, 0]))
            self.assertIsNone(asked(self, near_row, field, table, 1, [0, None, 0]))


if __name__ == "__main__":
    unittest.main()

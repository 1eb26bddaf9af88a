"""Point 21, and 2 for it: rules of rows, the shortest rule, drawing out."""

import unittest

from helpers import (EIGHT, FIELDS, FIVE, FOUR, SEVEN, SIXTY_FOUR, SIXTY_ONE, THREE, TWO, all_words, asked, chance,
                     some_row)
from mendfield.rules import drawn_out, keeps, shortest


def plain_keeps(field, row, rule):
    size, c = rule
    for i in range(size, len(row)):
        total = 0
        for j in range(size + 1):
            total = field.plus(total, field.times(c[j], row[i - j]))
        if total != 0:
            return False
    return True


def least(field, row):
    """The least L, by looking at all rules."""
    for size in range(len(row) + 1):
        if any(plain_keeps(field, row, (size, [1] + rest)) for rest in all_words(field, size)):
            return size


class Keeping(unittest.TestCase):
    def test_by_hand(self):
        self.assertIs(keeps(SEVEN, [0, 1, 1, 2, 3, 5, 1], (2, [1, 6, 6])), True)
        self.assertIs(keeps(SEVEN, [0, 1, 1, 2, 3, 5, 2], (2, [1, 6, 6])), False)
        self.assertIs(keeps(FOUR, [1, 2, 3, 1, 2, 3], (1, [1, 2])), True)
        self.assertIs(keeps(FOUR, [1, 2, 3, 1, 2, 2], (1, [1, 2])), False)

    def test_l_nought(self):
        for field in FIELDS:
            for row, due in (([], True), ([0], True), ([0] * 64, True), ([1], False), ([0, 0, 1], False)):
                self.assertIs(keeps(field, row, (0, [1])), due)

    def test_rows_that_are_too_short_to_break_it(self):
        for field in FIELDS:
            top = field.many - 1
            for row in ([], [1], [top, 1], [1, 0, top]):
                self.assertIs(keeps(field, row, (3, [1, top, 1, top])), True)
                self.assertIs(keeps(field, row, (64, [1] * 65)), True)

    def test_no_row_at_all(self):
        for field in FIELDS:
            self.assertIs(keeps(field, [], (0, [1])), True)
            self.assertIs(keeps(field, [], (2, [1, 0, 1])), True)

    def test_a_rule_with_last_numbers_0(self):
        for field in FIELDS:
            # It asks nothing of the first two, and 0 behind them.
            self.assertIs(keeps(field, [1, 1, 0, 0], (2, [1, 0, 0])), True)
            self.assertIs(keeps(field, [1, 1, 0, 1], (2, [1, 0, 0])), False)
            self.assertIs(keeps(field, [1, 0, 1], (2, [1, 0, 0])), False)

    def test_against_the_words(self):
        for field in (TWO, THREE, FOUR):
            turn = chance("keeps", field.told())
            for turns in range(200):
                rule = (turn.randrange(4),)
                rule += ([1] + some_row(field, rule[0], turn),)
                row = some_row(field, turn.randrange(6), turn)
                self.assertIs(asked(self, keeps, field, row, rule), plain_keeps(field, row, rule))


class Shortest(unittest.TestCase):
    def check(self, field, row):
        told = asked(self, shortest, field, row)
        self.assertIs(type(told), tuple)
        size, c = told
        self.assertEqual((len(c), c[0]), (size + 1, 1))
        self.assertTrue(all(field.holds(x) for x in c))
        self.assertLessEqual(size, len(row))
        self.assertTrue(plain_keeps(field, row, told), (field.told(), row, told))
        return size

    def test_rows_of_0s(self):
        for field in FIELDS:
            for length in (0, 1, 5, 64):
                self.assertEqual(self.check(field, [0] * length), 0)
                self.assertEqual(shortest(field, [0] * length), (0, [1]))

    def test_by_hand(self):
        self.assertEqual(shortest(SEVEN, [0, 1, 1, 2, 3, 5, 1]), (2, [1, 6, 6]))
        self.assertEqual(shortest(FOUR, [1, 2, 3, 1]), (1, [1, 2]))
        self.assertEqual(self.check(TWO, [0, 0, 0, 1]), 4)
        self.assertEqual(self.check(TWO, [1]), 1)
        # Two of anything, then 0s: the last numbers are 0.
        self.assertEqual(shortest(SEVEN, [3, 5, 0, 0, 0, 0]), (2, [1, 0, 0]))

    def test_against_all_rules(self):
        for field, length in ((TWO, 7), (THREE, 5), (FOUR, 4)):
            for shorter in range(length + 1):
                for row in all_words(field, shorter):
                    self.assertEqual(self.check(field, row), least(field, row), (field.told(), row))
        for field in (FIVE, SEVEN, EIGHT):
            turn = chance("shortest", field.told())
            for turns in range(40):
                row = some_row(field, turn.randrange(6), turn)
                self.assertEqual(self.check(field, row), least(field, row), (field.told(), row))

    def test_long_rows(self):
        for field in FIELDS:
            turn = chance("long shortest", field.told())
            for size in (1, 2, 5, 20, 32):
                rule = (size, [1] + some_row(field, size - 1, turn) + [1])
                row = drawn_out(field, rule, some_row(field, size, turn), 64)
                found = self.check(field, row)
                self.assertLessEqual(found, size)
                # So long a row keeps no shorter rule but one that is as good everywhere.
                again = drawn_out(field, shortest(field, row), row[:found], 64)
                self.assertEqual(again, row)
            self.check(field, some_row(field, 64, turn))
            self.assertEqual(self.check(field, [0] * 63 + [1]), 64)


class DrawnOut(unittest.TestCase):
    def test_by_hand(self):
        self.assertEqual(asked(self, drawn_out, SEVEN, (2, [1, 6, 6]), [0, 1], 7), [0, 1, 1, 2, 3, 5, 1])
        self.assertEqual(asked(self, drawn_out, FOUR, (1, [1, 2]), [1], 4), [1, 2, 3, 1])
        self.assertEqual(asked(self, drawn_out, SEVEN, (2, [1, 0, 0]), [3, 5], 5), [3, 5, 0, 0, 0])

    def test_to_just_l_and_to_64(self):
        for field in FIELDS:
            turn = chance("drawn out", field.told())
            for size in (0, 1, 3, 10, 63, 64):
                rule = (size, [1] + some_row(field, size, turn))
                begin = some_row(field, size, turn)
                self.assertEqual(asked(self, drawn_out, field, rule, begin, size), begin)
                row = asked(self, drawn_out, field, rule, begin, 64)
                self.assertEqual((len(row), row[:size]), (64, begin))
                self.assertTrue(plain_keeps(field, row, rule))
                self.assertTrue(keeps(field, row, rule))

    def test_l_nought(self):
        for field in (TWO, SEVEN, SIXTY_ONE, SIXTY_FOUR):
            self.assertEqual(drawn_out(field, (0, [1]), [], 0), [])
            self.assertEqual(drawn_out(field, (0, [1]), [], 5), [0] * 5)


if __name__ == "__main__":
    unittest.main()

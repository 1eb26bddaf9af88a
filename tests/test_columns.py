"""Point 26, and 2 for it: the order of sets, the first bound set, the lightest row."""

import itertools
import unittest

from helpers import (EIGHT, FIELDS, FIVE, FOUR, SEVEN, SIXTY_FOUR, SIXTY_ONE, SMALL, THREE, TWO, all_words, asked,
                     chance, plain_by_column, some_table, unit_table)
from mendfield.columns import first_bound, lightest_row


def is_bound(field, table, places):
    """Whether a sum of multiples of the columns is 0, by looking at all multiples."""
    columns = [[row[place] for place in places] for row in table]
    return any(any(x) and not any(plain_by_column(field, columns, x)) for x in all_words(field, len(places)))


def plain_bound(field, table):
    """The first bound set, by looking at each set in its order."""
    for size in range(1, len(table[0]) + 1):
        for places in itertools.combinations(range(len(table[0])), size):
            if is_bound(field, table, places):
                return list(places)
    return None


class FirstBound(unittest.TestCase):
    def check(self, field, table):
        told = asked(self, first_bound, field, table)
        row = asked(self, lightest_row, field, table)
        if told is None:
            self.assertIsNone(row)
        else:
            self.assertEqual(len(row), len(table[0]))
            self.assertEqual([place for place, x in enumerate(row) if x != 0], told)
            self.assertEqual(row[told[0]], 1)
            self.assertTrue(all(field.holds(x) for x in row))
            self.assertFalse(any(plain_by_column(field, table, row)))
        return told

    def test_a_column_of_0s(self):
        for field in FIELDS:
            self.assertEqual(self.check(field, [[1, 0, 1], [1, 0, 1]]), [1])
            self.assertEqual(lightest_row(field, [[1, 0, 1], [1, 0, 1]]), [0, 1, 0])
            self.assertEqual(self.check(field, [[0, 0], [0, 0]]), [0])
            self.assertEqual(self.check(field, [[1, 1, 0]]), [2])

    def test_multiples_of_each_other(self):
        for field in FIELDS:
            for factor in (1, field.many - 1):
                table = [[1, 0, factor, 1], [0, 1, 0, 1], [1, 1, factor, 0]]
                self.assertEqual(self.check(field, table), [0, 2])
                row = lightest_row(field, table)
                self.assertEqual(field.plus(1, field.times(row[2], factor)), 0)

    def test_independent_columns(self):
        for field in FIELDS:
            for size in (1, 2, 5, 12):
                self.assertIsNone(self.check(field, unit_table(size)))
            self.assertIsNone(self.check(field, [[0, 1], [1, 1], [0, 0]]))
            self.assertIsNone(self.check(field, [[1, 1, 1], [0, 1, 0], [0, 0, 1], [1, 0, 0]]))

    def test_tables_of_one_row(self):
        for field in FIELDS:
            top = field.many - 1
            self.assertIsNone(self.check(field, [[top]]))
            self.assertEqual(self.check(field, [[0]]), [0])
            self.assertEqual(self.check(field, [[top, 1]]), [0, 1])
            self.assertEqual(self.check(field, [[1, top, 1, 0]]), [3])
            self.assertEqual(lightest_row(field, [[1, top]]), [1, field.over(field.minus(0, 1), top)])

    def test_the_first_of_several_of_one_size(self):
        for field in FIELDS:
            # Columns 0 and 3, 1 and 2, 1 and 4 are alike.
            table = [[1, 0, 0, 1, 0], [0, 1, 1, 0, 1]]
            self.assertEqual(self.check(field, table), [0, 3])
            # 1 and 4, 2 and 3 are alike: the less place where they differ first.
            self.assertEqual(self.check(field, [[1, 0, 0, 0, 0], [0, 1, 0, 0, 1], [0, 0, 1, 1, 0]]), [1, 4])
            self.assertEqual(self.check(field, [[0, 0, 1], [0, 0, 1]]), [0])
        # Larger sets that begin earlier stand behind smaller ones.
        self.assertEqual(self.check(TWO, [[1, 0, 1, 0, 0], [0, 1, 1, 0, 0], [0, 0, 0, 1, 1]]), [3, 4])
        self.assertEqual(self.check(TWO, [[1, 0, 1, 1, 0], [0, 1, 1, 0, 1], [0, 0, 0, 1, 1]]), [0, 1, 2])

    def test_against_looking_at_all(self):
        for field in SMALL:
            turn = chance("bound", field.told())
            widest = 6 if field.many < 4 else 4
            for turns in range(60):
                table = some_table(field, turn.randrange(1, 5), turn.randrange(1, widest + 1), turn)
                self.assertEqual(self.check(field, table), plain_bound(field, table), (field.told(), table))

    def test_twelve_columns(self):
        for field in FIELDS:
            less = field.minus(0, 1)
            same = [[0] * i + [1] + [0] * (10 - i) + [less] for i in range(11)]
            self.assertEqual(self.check(field, same), list(range(12)))
            self.assertEqual(lightest_row(field, same), [1] * 12)
            turn = chance("twelve", field.told())
            for height in (1, 3, 6, 12):
                self.check(field, some_table(field, height, 12, turn))
        self.assertEqual(self.check(TWO, [[(n >> k) & 1 for n in range(1, 13)] for k in range(4)]), [0, 1, 2])

    def test_any_so_many_are_independent(self):
        # Powers of unlike elements: any r columns of r rows are independent.
        for field in (SIXTY_ONE, SIXTY_FOUR):
            for height in (1, 2, 5, 11):
                table = [[field.power(x, k) for x in range(1, 13)] for k in range(height)]
                self.assertEqual(self.check(field, table), list(range(height + 1)))
        for field in (FIVE, SEVEN, EIGHT):
            table = [[field.power(x, k) for x in range(1, field.many)] for k in range(2)]
            self.assertEqual(self.check(field, table), [0, 1, 2])

    def test_small_ones_all(self):
        for field, width in ((TWO, 3), (THREE, 2), (FOUR, 2)):
            rows = all_words(field, width)
            for one in rows:
                for other in rows:
                    self.assertEqual(self.check(field, [one, other]), plain_bound(field, [one, other]))


if __name__ == "__main__":
    unittest.main()

"""Points 19, 20, and 2 for them: solving or a reason why not, the way back."""

import unittest

from helpers import (FIELDS, FOUR, SEVEN, SIXTY_FOUR, SIXTY_ONE, THREE, TWO, all_words, asked, chance,
                     plain_by_column, some_row, some_table, unit_table)
from mendfield.solving import reason, solved, way_back
from mendfield.tables import leads, product, rank, reduced

SHAPES = ((1, 1), (1, 4), (4, 1), (2, 3), (3, 2), (4, 4), (7, 5), (5, 8))


class Solving(unittest.TestCase):
    def check(self, field, table, due):
        x = asked(self, solved, field, table, due)
        y = asked(self, reason, field, table, due)
        self.assertEqual([x is None, y is None].count(True), 1, (field.told(), table, due))
        if x is not None:
            self.assertEqual(len(x), len(table[0]))
            self.assertEqual(plain_by_column(field, table, x), due)
            taken = leads(reduced(field, table))
            self.assertFalse(any(x[place] for place in range(len(x)) if place not in taken))
        else:
            columns = [list(column) for column in zip(*table)]
            self.assertEqual(len(y), len(table))
            self.assertFalse(any(plain_by_column(field, columns, y)))
            self.assertEqual(plain_by_column(field, [due], y), [1])
        return x

    def test_by_hand(self):
        self.assertEqual(self.check(SEVEN, [[1, 2], [3, 4]], [5, 6]), [3, 1])
        self.assertEqual(self.check(SEVEN, [[2, 4, 1]], [6]), [3, 0, 0])
        self.assertIsNone(self.check(SEVEN, [[1, 2], [2, 4]], [1, 3]))
        self.assertEqual(self.check(SEVEN, [[1, 2], [2, 4]], [1, 2]), [1, 0])
        self.assertEqual(self.check(FOUR, [[0, 2]], [1]), [0, 3])

    def test_tables_of_0s(self):
        for field in FIELDS:
            for height, width in SHAPES:
                table = [[0] * width for row in range(height)]
                self.assertEqual(self.check(field, table, [0] * height), [0] * width)
                self.assertIsNone(self.check(field, table, [0] * (height - 1) + [field.many - 1]))

    def test_some(self):
        for field in FIELDS:
            turn = chance("solving", field.told())
            for height, width in SHAPES:
                for turns in range(4):
                    table = some_table(field, height, width, turn)
                    self.check(field, table, some_row(field, height, turn))
                    x = some_row(field, width, turn)
                    self.assertIsNotNone(self.check(field, table, plain_by_column(field, table, x)))
                    doubled = table + [field.scaled(field.many - 1, table[0])]
                    self.check(field, doubled, some_row(field, height + 1, turn))
                    self.check(field, [row + row for row in table], some_row(field, height, turn))

    def test_against_looking_at_all(self):
        for field in (TWO, THREE, FOUR):
            turn = chance("all dues", field.told())
            for height, width in ((2, 2), (3, 2), (2, 3)):
                for turns in range(8):
                    table = some_table(field, height, width, turn)
                    made = [plain_by_column(field, table, x) for x in all_words(field, width)]
                    for due in all_words(field, height):
                        self.assertEqual(self.check(field, table, due) is not None, due in made)

    def test_large_ones(self):
        for field in (TWO, SIXTY_ONE, SIXTY_FOUR):
            turn = chance("large solving", field.told())
            for height, width in ((64, 64), (64, 30), (30, 64)):
                table = some_table(field, height, width, turn)
                self.check(field, table, some_row(field, height, turn))
                self.check(field, table, plain_by_column(field, table, some_row(field, width, turn)))


class WayBack(unittest.TestCase):
    def check(self, field, table):
        told = asked(self, way_back, field, table)
        if rank(field, table) < len(table[0]):
            self.assertIsNone(told)
        else:
            self.assertEqual([len(row) for row in told], [len(table)] * len(table[0]))
            self.assertEqual(product(field, told, table), unit_table(len(table[0])))
        return told

    def test_by_hand(self):
        self.assertEqual(self.check(SEVEN, [[2]]), [[4]])
        self.assertIsNone(self.check(SEVEN, [[0]]))
        self.assertEqual(self.check(SEVEN, [[1, 2], [3, 4]]), [[5, 1], [5, 3]])

    def test_dependent_columns(self):
        for field in FIELDS:
            self.assertIsNone(self.check(field, [[1, 1], [1, 1], [0, 0]]))
            self.assertIsNone(self.check(field, [[1, 0], [1, 0]]))
            self.assertIsNone(self.check(field, [[1, 1]]))
            self.assertIsNone(self.check(field, [[0, 0, 0]] * 3))

    def test_more_rows_as_many_and_fewer(self):
        for field in FIELDS:
            turn = chance("way back", field.told())
            for height, width in SHAPES:
                for turns in range(4):
                    self.check(field, some_table(field, height, width, turn))
            for height in range(1, 6):
                above = some_table(field, height, 3, turn)
                self.assertIsNotNone(self.check(field, above + unit_table(3)))
                self.assertIsNotNone(self.check(field, [[0, 0, 0]] * height + unit_table(3)[::-1] + above))

    def test_large_ones(self):
        for field in (TWO, SIXTY_ONE, SIXTY_FOUR):
            turn = chance("large ways", field.told())
            stairs = [[0] * i + [1] + some_row(field, 63 - i, turn) for i in range(64)]
            self.assertIsNotNone(self.check(field, stairs[::-1]))
            self.assertIsNotNone(self.check(field, [row[:20] for row in stairs]))
            self.assertIsNone(self.check(field, stairs[:63] + [stairs[0]]))
            self.assertIsNone(self.check(field, stairs[:20]))


if __name__ == "__main__":
    unittest.main()

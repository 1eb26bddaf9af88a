"""Points 16 to 18, and 2 for them: products and turning, reduced rows and rank, the kernel."""

import unittest

from helpers import (FIELDS, FIVE, FOUR, SEVEN, SIXTY_FOUR, SIXTY_ONE, THREE, TWO, all_words, asked, chance,
                     plain_by_column, plain_words, some_row, some_table, unit_table)
from mendfield.tables import by_column, kernel, leads, picked, product, rank, reduced, row_by, turned

SHAPES = ((1, 1), (1, 5), (5, 1), (2, 3), (3, 2), (4, 4), (7, 6), (6, 9))


def some_tables(field):
    """Ordinary ones, of 0s alone, of 1s alone, with dependent rows."""
    turn = chance("tables", field.told())
    found = []
    for height, width in SHAPES:
        table = some_table(field, height, width, turn)
        found += [table, [[0] * width for row in table], [[1] * width for row in table]]
        below = [field.scaled(field.many - 1, table[0]), list(table[-1]), [0] * width]
        found += [below + table, [[0] + row for row in table], [row + row for row in table]]
    return found


def plain_product(field, one, other):
    columns = [list(column) for column in zip(*other)]
    return [plain_by_column(field, columns, row) for row in one]


def combined(field, rows, factors):
    """The sum of multiples of the rows."""
    total = [0] * len(rows[0])
    for factor, row in zip(factors, rows):
        total = [field.plus(x, field.times(factor, y)) for x, y in zip(total, row)]
    return total


def spanned(field, rows, width):
    """All sums of multiples of the rows."""
    if rows == []:
        return {(0,) * width}
    return {tuple(combined(field, rows, factors)) for factors in all_words(field, len(rows))}


class Products(unittest.TestCase):
    def test_by_hand(self):
        self.assertEqual(product(SEVEN, [[1, 2], [3, 4]], [[5, 6], [0, 1]]), [[5, 1], [1, 1]])
        self.assertEqual(product(FOUR, [[2]], [[3]]), [[1]])

    def test_products(self):
        for field in FIELDS:
            turn = chance("products", field.told())
            for height, width in SHAPES:
                for columns in (1, 3):
                    one = some_table(field, height, width, turn)
                    other = some_table(field, width, columns, turn)
                    due = plain_product(field, one, other)
                    self.assertEqual(asked(self, product, field, one, other), due)

    def test_large_ones(self):
        for field in (TWO, SIXTY_ONE, SIXTY_FOUR):
            turn = chance("large products", field.told())
            one = some_table(field, 64, 64, turn)
            other = some_table(field, 64, 64, turn)
            told = product(field, one, other)
            self.assertEqual(told, plain_product(field, one, other))
            self.assertEqual(product(field, one, unit_table(64)), one)
            self.assertEqual(asked(self, product, field, unit_table(64), one), one)

    def test_row_and_column_alone(self):
        self.assertEqual(row_by(SEVEN, [1, 2], [[3, 0, 1], [4, 5, 6]]), [4, 3, 6])
        self.assertEqual(by_column(SEVEN, [[3, 0, 1], [4, 5, 6]], [1, 2, 3]), [6, 4])
        for field in FIELDS:
            turn = chance("alone", field.told())
            for height, width in SHAPES + ((64, 64),):
                table = some_table(field, height, width, turn)
                row = some_row(field, height, turn)
                column = some_row(field, width, turn)
                self.assertEqual(asked(self, row_by, field, row, table), plain_product(field, [row], table)[0])
                self.assertEqual(asked(self, by_column, field, table, column), plain_by_column(field, table, column))


class Turning(unittest.TestCase):
    def test_by_hand(self):
        self.assertEqual(turned([[1, 2, 3], [4, 5, 6]]), [[1, 4], [2, 5], [3, 6]])
        self.assertEqual(turned([[1, 2, 3]]), [[1], [2], [3]])
        self.assertEqual(turned([[1], [2]]), [[1, 2]])

    def test_turned_twice(self):
        for field in FIELDS:
            for table in some_tables(field) + [some_table(field, 64, 64, chance("turned"))]:
                told = asked(self, turned, table)
                self.assertEqual(told, [list(column) for column in zip(*table)])
                self.assertEqual(turned(told), table)


class Picking(unittest.TestCase):
    def test_in_any_order(self):
        table = [[1, 2, 3, 4], [5, 6, 0, 1]]
        self.assertEqual(asked(self, picked, table, [0, 1, 2, 3]), table)
        self.assertEqual(asked(self, picked, table, [2]), [[3], [0]])
        self.assertEqual(asked(self, picked, table, [3, 0]), [[4, 1], [1, 5]])
        self.assertEqual(asked(self, picked, table, [1, 3, 0, 2]), [[2, 4, 1, 3], [6, 1, 5, 0]])
        large = [list(range(row, row + 64)) for row in range(64)]
        back = list(range(63, -1, -1))
        self.assertEqual(asked(self, picked, large, back), [row[::-1] for row in large])


class Reduced(unittest.TestCase):
    def check_form(self, rows):
        places = []
        for row in rows:
            self.assertTrue(any(row), rows)
            place = next(k for k, x in enumerate(row) if x != 0)
            self.assertEqual(row[place], 1)
            places.append(place)
        self.assertEqual(places, sorted(set(places)))
        for place in places:
            self.assertEqual(sum(1 for row in rows if row[place] != 0), 1)
        return places

    def test_by_hand(self):
        self.assertEqual(reduced(SEVEN, [[0, 2, 4], [3, 3, 3]]), [[1, 0, 6], [0, 1, 2]])
        self.assertEqual(reduced(SEVEN, [[2, 4, 6], [1, 2, 3]]), [[1, 2, 3]])
        self.assertEqual(reduced(TWO, [[1, 1, 0], [0, 1, 1], [1, 0, 1]]), [[1, 0, 1], [0, 1, 1]])

    def test_of_0s_alone(self):
        for field in FIELDS:
            for height, width in SHAPES:
                table = [[0] * width for row in range(height)]
                self.assertEqual(asked(self, reduced, field, table), [])
                self.assertEqual(rank(field, table), 0)
                self.assertEqual(asked(self, kernel, field, table), unit_table(width))

    def test_form_and_leads_and_rank(self):
        for field in FIELDS:
            for table in some_tables(field):
                told = asked(self, reduced, field, table)
                places = self.check_form(told)
                self.assertEqual(asked(self, leads, told), places)
                kept = [list(row) for row in table]
                self.assertEqual(rank(field, table), len(told))
                self.assertEqual(table, kept)

    def test_sums_of_multiples_both_ways(self):
        for field in (TWO, THREE, FOUR):
            turn = chance("spans", field.told())
            for height in (1, 2, 3):
                for turns in range(12):
                    table = some_table(field, height, 3, turn)
                    told = reduced(field, table)
                    self.check_form(told)
                    self.assertEqual(spanned(field, told, 3), spanned(field, table, 3), (field.told(), table))

    def test_reduced_rows_of_reduced_rows(self):
        for field in FIELDS:
            for table in some_tables(field):
                told = reduced(field, table)
                if told:
                    self.assertEqual(reduced(field, told), told)
                    self.assertEqual(reduced(field, told[::-1] + table), told)

    def test_dependent_rows(self):
        for field in FIELDS:
            one = [1, 0, 1, 1]
            other = [0, 1, 1, 0]
            both = [field.plus(x, y) for x, y in zip(one, other)]
            self.assertEqual(reduced(field, [both, other, one]), [one, other])
            self.assertEqual(rank(field, [both, other, one, both]), 2)

    def test_large_ones(self):
        for field in (TWO, SIXTY_ONE, SIXTY_FOUR):
            turn = chance("large reduced", field.told())
            for height, width in ((64, 64), (64, 20), (20, 64)):
                table = some_table(field, height, width, turn)
                self.check_form(asked(self, reduced, field, table))
            # Rows with 1 at their own place and anything behind it are independent.
            stairs = [[0] * i + [1] + some_row(field, 63 - i, turn) for i in range(64)]
            self.assertEqual(reduced(field, stairs[::-1]), unit_table(64))
            self.assertEqual(rank(field, stairs), 64)


class Leads(unittest.TestCase):
    def test_leads(self):
        self.assertEqual(asked(self, leads, []), [])
        self.assertEqual(asked(self, leads, [[0, 0, 5], [3, 0, 1], [0, 2, 2], [0, 6, 0]]), [2, 0, 1, 1])
        self.assertEqual(leads([[4]]), [0])


class Kernels(unittest.TestCase):
    def test_by_hand(self):
        self.assertEqual(kernel(SEVEN, [[1, 0, 2, 3], [0, 1, 4, 5]]), [[5, 3, 1, 0], [4, 2, 0, 1]])
        self.assertEqual(kernel(TWO, [[0, 1, 1]]), [[1, 0, 0], [0, 1, 1]])

    def test_no_free_place(self):
        for field in FIELDS:
            self.assertEqual(asked(self, kernel, field, unit_table(5)), [])
            self.assertEqual(asked(self, kernel, field, [[0], [1]]), [])
            self.assertEqual(asked(self, kernel, field, [[0, 1], [1, 1], [1, 0]]), [])

    def test_one_row_for_each_free_place(self):
        for field in FIELDS:
            for table in some_tables(field) + [some_table(field, 40, 64, chance("kernel", field.told()))]:
                width = len(table[0])
                taken = leads(reduced(field, table))
                free = [place for place in range(width) if place not in taken]
                told = asked(self, kernel, field, table)
                self.assertEqual(len(told), len(free))
                for place, row in zip(free, told):
                    self.assertEqual(len(row), width)
                    self.assertEqual([row[other] for other in free], [int(other == place) for other in free])
                    self.assertFalse(any(plain_by_column(field, table, row)))

    def test_all_that_is_sent_to_0(self):
        for field in (TWO, THREE, FOUR, FIVE):
            turn = chance("kernels", field.told())
            for height in (1, 2, 3):
                for turns in range(6):
                    table = some_table(field, height, 4, turn)
                    words = plain_words(field, table)
                    told = kernel(field, table)
                    self.assertEqual(len(words), field.many ** len(told))
                    self.assertEqual(spanned(field, told, 4), {tuple(word) for word in words})


if __name__ == "__main__":
    unittest.main()

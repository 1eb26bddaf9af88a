"""Points 28, 30, 32 to 34, and 2 and 3 for codes by checks."""

import unittest

from code_checks import CodeChecks
from helpers import (EIGHT, FIELDS, FIVE, FOUR, SEVEN, SIXTEEN, SIXTY_FOUR, SIXTY_ONE, SMALL, THREE, TWO, asked,
                     chance, distance_of, plain_words, some_table, unit_table)
from mendfield.checkcodes import CheckCode
from mendfield.columns import first_bound
from mendfield.errors import NoCode
from mendfield.tables import rank


def some_checks(field):
    """Tables of codes, of all sizes, rows told twice and columns of 0s among them."""
    turn = chance("checks", field.told())
    found = [[[0, 0]], [[1, 1]], [[1, 0, 0], [1, 0, 0]], [[0, 1, 1]], [[0] * 12] * 12, [[1] * 12] * 12]
    less = field.minus(0, 1)
    found.append([[0] * i + [1] + [0] * (10 - i) + [less] for i in range(11)])
    for height, width in ((1, 2), (1, 5), (2, 4), (3, 5), (4, 8), (6, 12), (8, 12), (12, 12)):
        table = some_table(field, height, width, turn)
        table[0] = table[-1][:]
        found.append(table if rank(field, table) < width else table[1:])
    return [table for table in found if table and rank(field, table) < len(table[0])]


class Making(CodeChecks, unittest.TestCase):
    def test_by_hand(self):
        code = CheckCode(SEVEN, [[1, 0, 3], [0, 1, 2]])
        self.assertEqual((code.length, code.size, code.distance()), (3, 1, 3))
        self.assertEqual(code.rows(), [[4, 5, 1]])
        self.assertEqual(code.places(), [2])
        self.assertEqual(code.written([2]), [1, 3, 2])
        self.assertEqual(code.mended([1, 3, 0]), ([1, 3, 2], [(2, 0, 2)]))
        self.assertEqual(code.mended([1, None, None]), ([1, 3, 2], []))
        self.assertEqual(code.told(), "checks 1 0 3/0 1 2")

    def test_what_a_code_has(self):
        for field in FIELDS:
            turn = chance("check codes", field.told())
            for table in some_checks(field):
                code = CheckCode(field, table)
                self.check_code(code, field, turn)
                self.assertEqual(code.length, len(table[0]))
                self.assertEqual(code.size, code.length - rank(field, table))
                self.assertEqual(code.checks(), table)
                self.assertEqual(code.distance(), len(first_bound(field, table)))

    def test_the_distance(self):
        for field in SMALL:
            turn = chance("distances", field.told())
            width = 6 if field.many < 4 else 4 if field.many < 7 else 3
            for height in range(1, width):
                for turns in range(5):
                    table = some_table(field, height, width, turn)
                    self.assertEqual(CheckCode(field, table).distance(), distance_of(plain_words(field, table)))

    def test_a_column_of_0s(self):
        for field in FIELDS:
            self.assertEqual(CheckCode(field, [[1, 0, 1], [1, 0, 0]]).distance(), 1)
            self.assertEqual(CheckCode(field, [[0, 0]]).distance(), 1)
            self.assertEqual(CheckCode(field, [[0, 0]]).size, 2)

    def test_rows_told_twice(self):
        for field in FIELDS:
            table = [[1, 1, 0], [1, 1, 0], [0, 1, 1], [1, 1, 0]]
            code = CheckCode(field, table)
            self.assertEqual(code.checks(), table)
            self.assertEqual((code.size, code.distance()), (1, 3))

    def test_no_code(self):
        for field in FIELDS:
            fine = [0, 1, 0]
            for table in ([], [[]], [[], []], [[0]], [[1]], [[0], [0]], [[0] * 13], [[1] * 13] * 3, [fine] * 13,
                          [fine, [0, 1]], [[0, 1], fine], [fine, []], [[], fine], [fine, fine + [0]],
                          [[0, 1, -1]], [[0, 1, field.many]], [fine, [10 ** 9, 0, 0]], [[0, -10 ** 9]],
                          unit_table(2), unit_table(3), unit_table(12), unit_table(2) + [[1, 1]],
                          [[0] * 100] * 2, [fine] * 100, unit_table(13)):
                with self.assertRaises(NoCode, msg=table):
                    CheckCode(field, table)

    def test_the_table_changed_behind_the_making(self):
        for field in FIELDS:
            table = [[1, 1, 0, 1], [0, 1, 1, 1]]
            code = CheckCode(field, table)
            row = table[0]
            row[0] = 0
            row.append(5)
            table.append([0, 0, 0, 0])
            table[1][3] = 0
            again = CheckCode(field, [[1, 1, 0, 1], [0, 1, 1, 1]])
            self.assertEqual(code.checks(), [[1, 1, 0, 1], [0, 1, 1, 1]])
            self.assertEqual(code.rows(), again.rows())
            self.assertEqual(code.places(), again.places())
            self.assertEqual(code.checked([1, 0, 0, 0]), [1, 0])
            self.assertEqual(code.written([1, 0]), again.written([1, 0]))
            self.assertEqual((code.distance(), code.told()), (again.distance(), "checks 1 1 0 1/0 1 1 1"))
            self.assertEqual(code.nearest([0, 0, 0, 0]), [0, 0, 0, 0])

    def test_one_row_for_all(self):
        row = [1, 1, 0]
        code = CheckCode(TWO, [row, row])
        row[2] = 1
        self.assertEqual(code.checks(), [[1, 1, 0], [1, 1, 0]])
        asked(self, code.checks)

    def test_told(self):
        self.assertEqual(CheckCode(SEVEN, [[1, 0, 3], [0, 1, 2]]).told(), "checks 1 0 3/0 1 2")
        self.assertEqual(CheckCode(SIXTEEN, [[15, 10]]).told(), "checks 15 10")
        self.assertEqual(CheckCode(TWO, [[0, 0], [0, 0], [0, 0]]).told(), "checks 0 0/0 0/0 0")


class Mending(CodeChecks, unittest.TestCase):
    def test_all_words(self):
        for field, width, turns in ((TWO, 5, 6), (THREE, 4, 4), (FOUR, 3, 4), (FIVE, 3, 3)):
            turn = chance("check words", field.told())
            for height in range(1, width):
                for one in range(turns // height + 1):
                    self.check_all_words(CheckCode(field, some_table(field, height, width, turn)))
            less = field.minus(0, 1)
            same = [[0] * i + [1] + [0] * (width - 2 - i) + [less] for i in range(width - 1)]
            self.check_all_words(CheckCode(field, same))

    def test_just_beyond(self):
        for field in FIELDS:
            turn = chance("check beyond", field.told())
            for table in some_checks(field):
                self.check_just_beyond(CheckCode(field, table), turn)

    def test_powers(self):
        for field in (SIXTEEN, SIXTY_ONE, SIXTY_FOUR):
            turn = chance("check powers", field.told())
            for height in (2, 6, 11):
                code = CheckCode(field, [[field.power(x, k) for x in range(12)] for k in range(height)])
                self.assertEqual(code.distance(), height + 1)
                self.check_just_beyond(code, turn)

    def test_refusals(self):
        for field in (TWO, FOUR, SEVEN, EIGHT):
            for table in some_checks(field):
                code = CheckCode(field, table)
                self.check_refusals(code)


if __name__ == "__main__":
    unittest.main()

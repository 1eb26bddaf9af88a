"""Points 42, 43, and 2 for them: weaving and cutting."""

import unittest

from helpers import asked
from mendfield.errors import NoRows
from mendfield.weaving import cut_rows, unwoven, woven


class Weaving(unittest.TestCase):
    def test_woven(self):
        for rows, due in (([[1, 2, 3], [4, 5, 6]], [1, 4, 2, 5, 3, 6]),
                          ([[1, 2, 3]], [1, 2, 3]),
                          ([[1], [2], [3]], [1, 2, 3]),
                          ([[]], []), ([[], [], []], []),
                          ([[None, 1], [2, None], [0, 0]], [None, 2, 0, 1, None, 0])):
            self.assertEqual(asked(self, woven, rows), due)
            self.assertEqual(asked(self, unwoven, due, len(rows)), rows)

    def test_larger_ones(self):
        for many in (1, 2, 7, 16, 1000):
            for length in (1, 3, 24):
                rows = [[i * length + j for j in range(length)] for i in range(many)]
                signs = asked(self, woven, rows)
                self.assertEqual(signs, [rows[i][j] for j in range(length) for i in range(many)])
                self.assertEqual(asked(self, unwoven, signs, many), rows)

    def test_no_rows(self):
        for rows in ([], [[1], []], [[], [1]], [[1, 2], [3]], [[1], [2], [3, 4]], [[1, 2], [3, 4], [5]]):
            with self.assertRaises(NoRows):
                asked(self, woven, rows)

    def test_numbers_of_rows(self):
        for signs in ([], [1], [1, 2, 3, 4], [None, 0]):
            for many in (0, -1, -2, -1000):
                with self.assertRaises(NoRows):
                    asked(self, unwoven, signs, many)
        for signs, many in (([1], 2), ([1, 2, 3], 2), ([1, 2, 3, 4], 3), ([None, None], 4), ([1] * 10, 1000)):
            with self.assertRaises(NoRows):
                asked(self, unwoven, signs, many)

    def test_of_no_signs(self):
        for many in (1, 2, 5, 1000):
            told = asked(self, unwoven, [], many)
            self.assertEqual(told, [[]] * many)
            told[0].append(1)
            self.assertEqual(told[1:], [[]] * (many - 1))

    def test_one_row(self):
        self.assertEqual(asked(self, unwoven, [3, None, 1], 1), [[3, None, 1]])
        self.assertEqual(asked(self, unwoven, [3, None, 1], 3), [[3], [None], [1]])


class Cutting(unittest.TestCase):
    def test_cut(self):
        for signs, size, due in (([], 1, []), ([], 5, []), ([1, 2, 3, 4], 2, [[1, 2], [3, 4]]),
                                 ([1, 2, 3], 2, [[1, 2], [3, 0]]), ([1], 4, [[1, 0, 0, 0]]),
                                 ([1, 2, 3], 1, [[1], [2], [3]]), ([1, 2, 3], 3, [[1, 2, 3]]),
                                 ([0, 0, 0, 0], 3, [[0, 0, 0], [0, 0, 0]]), ([5, 6], 100, [[5, 6] + [0] * 98])):
            self.assertEqual(asked(self, cut_rows, signs, size), due)


if __name__ == "__main__":
    unittest.main()

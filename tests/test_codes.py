"""Points 28, 31 to 34, and 2 and 3 for codes by repeating."""

import unittest

from code_checks import CodeChecks
from helpers import FIELDS, FIVE, FOUR, SEVEN, THREE, TWO, asked, chance
from mendfield.codes import Code, RepeatCode
from mendfield.errors import NoCode, TooFar


class Repeating(CodeChecks, unittest.TestCase):
    def test_by_hand(self):
        code = RepeatCode(SEVEN, 3)
        self.assertIsInstance(code, Code)
        self.assertEqual((code.length, code.size, code.distance()), (3, 1, 3))
        self.assertEqual(code.checks(), [[1, 0, 6], [0, 1, 6]])
        self.assertEqual(code.rows(), [[1, 1, 1]])
        self.assertEqual(code.places(), [2])
        self.assertEqual(code.written([5]), [5, 5, 5])
        self.assertEqual(code.checked([1, 2, 3]), [5, 6])
        self.assertEqual(code.mended([4, 5, 5]), ([5, 5, 5], [(0, 4, 5)]))
        self.assertEqual(code.mended([None, 5, None]), ([5, 5, 5], []))
        self.assertEqual(code.read([4, 4, 6]), [4])
        self.assertEqual(RepeatCode(TWO, 2).checks(), [[1, 1]])
        self.assertEqual(RepeatCode(FOUR, 2).checks(), [[1, 1]])

    def test_what_a_code_has(self):
        for field in FIELDS:
            turn = chance("repeat", field.told())
            less = field.minus(0, 1)
            for length in (2, 3, 7, 24):
                code = RepeatCode(field, length)
                self.check_code(code, field, turn)
                self.assertEqual((code.length, code.size, code.distance()), (length, 1, length))
                self.assertEqual(code.places(), [length - 1])
                due = [[1 if j == i else less if j == length - 1 else 0 for j in range(length)]
                       for i in range(length - 1)]
                self.assertEqual(code.checks(), due)
                for sign in range(field.many):
                    self.assertEqual(code.written([sign]), [sign] * length)

    def test_no_code(self):
        for field in FIELDS:
            for length in (1, 0, -1, -2, 25, 26, 1000, 10 ** 20, -10 ** 20):
                with self.assertRaises(NoCode):
                    RepeatCode(field, length)

    def test_all_words(self):
        for field, lengths in ((TWO, (2, 3, 4, 5)), (THREE, (2, 3, 4)), (FOUR, (2, 3)), (FIVE, (2, 3))):
            for length in lengths:
                self.check_all_words(RepeatCode(field, length))

    def test_just_beyond(self):
        for field in FIELDS:
            turn = chance("repeat beyond", field.told())
            for length in (2, 3, 6, 11, 24):
                self.check_just_beyond(RepeatCode(field, length), turn)

    def test_more_than_half_of_those_not_lost(self):
        for field in FIELDS:
            code = RepeatCode(field, 6)
            one = field.many - 1
            self.check_mending(code, [one, 0, one, None, None, None], [one] * 6)
            self.check_mending(code, [one, 0, None, None, None, None], None)
            self.check_mending(code, [None, None, None, 0, None, None], [0] * 6)
            self.check_mending(code, [one, one, one, 0, 0, 0], None)
            self.check_mending(code, [0, one, one, one, 0, one], [one] * 6)
        self.check_mending(RepeatCode(SEVEN, 5), [1, 1, 2, 3, 4], None)
        self.check_mending(RepeatCode(SEVEN, 5), [6, 1, 2, 1, 1], [1] * 5)

    def test_refusals(self):
        for field in FIELDS:
            for length in (2, 5, 24):
                self.check_refusals(RepeatCode(field, length))

    def test_lost_is_the_asker_s_own(self):
        code = RepeatCode(SEVEN, 4)
        word = [1, None, 2, None]
        with self.assertRaises(TooFar) as taken:
            code.mended(word)
        taken.exception.lost.append(9)
        with self.assertRaises(TooFar) as again:
            code.mended(word)
        self.assertEqual(again.exception.lost, [1, 3])
        self.assertEqual(word, [1, None, 2, None])

    def test_told(self):
        self.assertEqual(RepeatCode(SEVEN, 5).told(), "repeat 5")
        self.assertEqual(RepeatCode(TWO, 24).told(), "repeat 24")

    def test_what_is_told_is_the_asker_s_own(self):
        code = RepeatCode(FIVE, 4)
        for call in (code.checks, code.rows, code.places):
            asked(self, call)
        sent, wrong = code.mended([3, 3, 3, 1])
        sent.append(9)
        wrong.append(9)
        self.assertEqual(code.mended([3, 3, 3, 1]), ([3, 3, 3, 3], [(3, 1, 3)]))


if __name__ == "__main__":
    unittest.main()

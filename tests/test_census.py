"""Points 37 to 39, and 2 for them: the census, the crossed code, the crossed census."""

import unittest

from helpers import (EIGHT, FIELDS, FIVE, FOUR, SEVEN, SIXTEEN, SIXTY_FOUR, SIXTY_ONE, SMALL, THREE, TWO, all_words,
                     asked, chance, plain_words, some_table, weight)
from mendfield.census import census, crossed_census, crossed_code
from mendfield.checkcodes import CheckCode
from mendfield.codes import RepeatCode
from mendfield.errors import NoCode, TooLarge
from mendfield.rootcodes import RootCode


def counted(words, length):
    found = [0] * (length + 1)
    for word in words:
        found[weight(word)] += 1
    return found


def dotted(field, one, other):
    total = 0
    for x, y in zip(one, other):
        total = field.plus(total, field.times(x, y))
    return total


def crossed_words(field, words, length):
    return [one for one in all_words(field, length) if all(dotted(field, one, word) == 0 for word in words)]


def small_codes():
    """Codes all of whose words can be looked at."""
    found = [RootCode(FIVE, 4, 2), RootCode(FOUR, 3, 1, 0), RootCode(THREE, 2, 1), RootCode(SEVEN, 3, 2),
             RootCode(EIGHT, 3, 1, 5)]
    for field in SMALL:
        width = 6 if field.many == 2 else 4 if field.many < 5 else 3
        turn = chance("census", field.told())
        found += [RepeatCode(field, width), CheckCode(field, [[0] * width]), CheckCode(field, [[1] * width])]
        for height in range(1, width):
            found.append(CheckCode(field, some_table(field, height, width, turn)))
    return found


class Census(unittest.TestCase):
    def test_by_hand(self):
        self.assertEqual(census(RepeatCode(SEVEN, 3)), [1, 0, 0, 6])
        self.assertEqual(census(CheckCode(TWO, [[1, 1, 1]])), [1, 0, 3, 0])
        hamming = [[(n >> k) & 1 for n in range(1, 8)] for k in range(3)]
        self.assertEqual(census(CheckCode(TWO, hamming)), [1, 0, 0, 7, 7, 0, 0, 1])

    def test_against_looking_at_all(self):
        for code in small_codes():
            due = counted(plain_words(code.field, code.checks()), code.length)
            self.assertEqual(asked(self, census, code), due, code.told())

    def test_just_4096(self):
        self.assertEqual(sum(census(CheckCode(TWO, [[0] * 12]))), 4096)
        self.assertEqual(census(CheckCode(TWO, [[0] * 12]))[:4], [1, 12, 66, 220])
        for code in (RootCode(SIXTY_FOUR, 63, 61), RootCode(SIXTEEN, 15, 12, 0), CheckCode(FOUR, [[0] * 6]),
                     RootCode(EIGHT, 7, 3)):
            told = census(code)
            self.assertEqual(sum(told), 4096, code.told())
            self.assertEqual((told[0], told[1:code.distance()]), (1, [0] * (code.distance() - 1)), code.told())
            self.assertGreater(told[code.distance()], 0)
        self.assertEqual(sum(census(RootCode(SIXTY_ONE, 60, 58))), 61 ** 2)

    def test_too_large(self):
        for code in (RootCode(SIXTY_FOUR, 63, 60), RootCode(SIXTY_FOUR, 63, 1), RootCode(SIXTEEN, 15, 11),
                     CheckCode(FOUR, [[0] * 7]), CheckCode(THREE, [[0] * 8]), CheckCode(SEVEN, [[1] * 6]),
                     CheckCode(FIVE, [[0] * 12]), RootCode(EIGHT, 7, 2), RootCode(SIXTY_ONE, 60, 57)):
            self.assertGreater(code.field.many ** code.size, 4096)
            with self.assertRaises(TooLarge):
                asked(self, census, code)

    def test_just_below(self):
        for code in (CheckCode(THREE, [[0] * 7]), CheckCode(FIVE, [[0] * 5]), CheckCode(SEVEN, [[0] * 4])):
            self.assertEqual(sum(census(code)), code.field.many ** code.size)


class CrossedCode(unittest.TestCase):
    def test_by_hand(self):
        crossed = crossed_code(RepeatCode(SEVEN, 3))
        self.assertEqual(crossed.checks(), [[1, 1, 1]])
        self.assertEqual((crossed.length, crossed.size, crossed.distance()), (3, 2, 2))

    def test_its_words(self):
        for code in small_codes():
            if code.size == code.length:
                continue
            crossed = crossed_code(code)
            self.assertIsInstance(crossed, CheckCode)
            self.assertIs(crossed.field, code.field)
            self.assertEqual(crossed.checks(), code.rows())
            words = plain_words(code.field, code.checks())
            due = crossed_words(code.field, words, code.length)
            self.assertEqual(plain_words(code.field, crossed.checks()), due)
            twice = crossed_code(crossed)
            self.assertEqual(plain_words(code.field, twice.checks()), words)

    def test_too_large_first_then_no_code(self):
        for code in (RootCode(SIXTEEN, 13, 4), RepeatCode(TWO, 13), RepeatCode(SIXTY_ONE, 24),
                     RootCode(SIXTY_FOUR, 63, 31)):
            with self.assertRaises(TooLarge):
                crossed_code(code)
        for field in FIELDS:
            for table in ([[0, 0]], [[0, 0, 0], [0, 0, 0]], [[0] * 12]):
                with self.assertRaises(NoCode):
                    crossed_code(CheckCode(field, table))

    def test_twelve_signs(self):
        for code in (RootCode(SIXTEEN, 12, 4), RepeatCode(SEVEN, 12), RootCode(SIXTY_FOUR, 12, 1),
                     RootCode(SIXTY_ONE, 12, 11, 0), CheckCode(TWO, [[1] * 12])):
            crossed = crossed_code(code)
            self.assertEqual((crossed.length, crossed.size), (12, 12 - code.size))
            for row in code.rows():
                for other in crossed.rows():
                    self.assertEqual(dotted(code.field, row, other), 0)
            self.assertEqual(crossed_code(crossed).rows(), code.rows())


class CrossedCensus(unittest.TestCase):
    def test_by_hand(self):
        self.assertEqual(asked(self, crossed_census, 2, [1, 0, 0, 1]), [1, 0, 3, 0])
        self.assertEqual(crossed_census(2, [1, 0, 3, 0]), [1, 0, 0, 1])
        self.assertEqual(crossed_census(7, [1, 0, 6]), [1, 0, 6])

    def test_the_census_of_the_crossed_words(self):
        for code in small_codes():
            field = code.field
            words = plain_words(field, code.checks())
            due = counted(crossed_words(field, words, code.length), code.length)
            told = asked(self, crossed_census, field.many, census(code))
            self.assertEqual(told, due, code.told())
            self.assertEqual(crossed_census(field.many, told), census(code))
            if code.size < code.length:
                self.assertEqual(census(crossed_code(code)), told)

    def test_only_the_word_of_0s(self):
        for field in FIELDS:
            for length in (1, 2, 7, 24):
                only = [1] + [0] * length
                everything = crossed_census(field.many, only)
                self.assertEqual(sum(everything), field.many ** length)
                self.assertEqual(everything[-1], (field.many - 1) ** length)
                self.assertEqual(asked(self, crossed_census, field.many, everything), only)

    def test_up_to_24_signs(self):
        for field in FIELDS:
            for length in (13, 20, 24):
                counts = census(RepeatCode(field, length))
                told = asked(self, crossed_census, field.many, counts)
                self.assertEqual(len(told), length + 1)
                self.assertEqual((told[0], told[1]), (1, 0))
                self.assertEqual(sum(told), field.many ** (length - 1))
                self.assertTrue(all(count >= 0 for count in told))
                self.assertEqual(crossed_census(field.many, told), counts)

    def test_codes_by_roots_of_more_signs(self):
        for field, length in ((SIXTEEN, 15), (SIXTY_FOUR, 24), (SIXTY_ONE, 24)):
            few = RootCode(field, length, length - 2, 0)
            counts = census(few)
            told = crossed_census(field.many, counts)
            # The crossed words are those of two checks by which any two columns are independent.
            self.assertEqual(told[:3], [1, 0, 0])
            self.assertEqual(sum(told), field.many ** (length - 2))
            self.assertEqual(crossed_census(field.many, told), counts)


if __name__ == "__main__":
    unittest.main()

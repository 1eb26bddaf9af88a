"""Points 28, 29, 32 to 34, and 2 and 3 for codes by roots."""

import itertools
import unittest

from code_checks import CodeChecks
from helpers import (EIGHT, FIELDS, FIVE, FOUR, SEVEN, SIXTEEN, SIXTEEN_STEP_3, SIXTY_FOUR, SIXTY_ONE, THREE, TWO,
                     asked, chance, distance_of, plain_words)
from mendfield.errors import NoCode
from mendfield.finder import root_sums
from mendfield.polys import poly_divided
from mendfield.rootcodes import RootCode
from mendfield.roots import by_roots
from mendfield.tables import picked, rank

LARGE = tuple(field for field in FIELDS if field.many >= 7)


def some_codes(field):
    most = field.many - 1
    found = []
    for length in sorted({2, most // 2, most} - {1}):
        for extra in sorted({1, length // 2, length - 1}):
            for first in sorted({0, 1, most // 2, most - 1}):
                found.append((length, extra, first))
    return found


class Making(CodeChecks, unittest.TestCase):
    def test_by_hand(self):
        code = RootCode(SEVEN, 4, 2)
        self.assertEqual((code.length, code.size, code.extra, code.first, code.distance()), (4, 2, 2, 1, 3))
        # The step is 3: rows of its powers 0, 1, 2, 3 and 0, 2, 4, 6.
        self.assertEqual(code.checks(), [[1, 3, 2, 6], [1, 2, 4, 1]])
        self.assertEqual(code.places(), [2, 3])
        self.assertEqual(code.maker(), by_roots(SEVEN, [3, 2]))
        self.assertEqual(code.mended([0, 0, 3, 0]), ([0, 0, 0, 0], [(2, 3, 0)]))

    def test_what_a_code_has(self):
        for field in LARGE + (FOUR, FIVE):
            turn = chance("roots", field.told())
            for length, extra, first in some_codes(field):
                code = RootCode(field, length, extra, first)
                self.check_code(code, field, turn)
                self.assertEqual((code.length, code.extra, code.first), (length, extra, first))
                self.assertEqual((code.size, code.distance()), (length - extra, extra + 1))
                self.assertEqual(code.places(), list(range(extra, length)))
                due = [[field.power(field.step, (first + i) * j) for j in range(length)] for i in range(extra)]
                self.assertEqual(code.checks(), due)
                roots = [field.power(field.step, first + i) for i in range(extra)]
                self.assertEqual(asked(self, code.maker), by_roots(field, roots))
                word = code.written([1] * code.size)
                self.assertEqual(root_sums(field, first, extra, word), [0] * extra)
                self.assertEqual(poly_divided(field, word, code.maker())[1], [])

    def test_any_extra_columns_are_independent(self):
        for field in (FIVE, SEVEN, EIGHT):
            for first in range(field.many - 1):
                for extra in range(1, field.many - 2):
                    code = RootCode(field, field.many - 1, extra, first)
                    for places in itertools.combinations(range(code.length), extra):
                        self.assertEqual(rank(field, picked(code.checks(), list(places))), extra)

    def test_the_distance(self):
        for field, length in ((THREE, 2), (FOUR, 3), (FIVE, 4)):
            for extra in range(1, length):
                for first in range(field.many - 1):
                    code = RootCode(field, length, extra, first)
                    self.assertEqual(distance_of(plain_words(field, code.checks())), code.distance())

    def test_first_left_out(self):
        for field in LARGE:
            code = RootCode(field, 5, 3)
            self.assertEqual((code.first, code.checks()), (1, RootCode(field, 5, 3, 1).checks()))
            self.assertEqual(RootCode(field, 5, 3, first=0).first, 0)

    def test_no_code(self):
        for field in FIELDS:
            most = field.many - 1
            for length in (-10 ** 9, -1, 0, 1, most + 1, most + 2, 10 ** 9):
                for extra in (1, 2, length - 1, length):
                    with self.assertRaises(NoCode):
                        RootCode(field, length, extra)
            for length in sorted({2, most // 2, most} - {0, 1}):
                if length <= most:
                    for extra in (-10 ** 9, -1, 0, length, length + 1, 10 ** 9):
                        with self.assertRaises(NoCode):
                            RootCode(field, length, extra)
                    for first in (-10 ** 9, -1, most, most + 1, 10 ** 9):
                        with self.assertRaises(NoCode):
                            RootCode(field, length, 1, first)
                    for first in range(most):
                        self.assertEqual(RootCode(field, length, 1, first).first, first)

    def test_no_code_over_two(self):
        for length in range(-1, 5):
            for extra in range(-1, 5):
                with self.assertRaises(NoCode):
                    RootCode(TWO, length, extra, 0)


class Mending(CodeChecks, unittest.TestCase):
    def test_all_words(self):
        for code in (RootCode(THREE, 2, 1), RootCode(THREE, 2, 1, 0), RootCode(FOUR, 3, 1), RootCode(FOUR, 3, 2),
                     RootCode(FOUR, 3, 2, 0), RootCode(FOUR, 2, 1, 2), RootCode(FIVE, 4, 2), RootCode(FIVE, 3, 2, 3),
                     RootCode(FIVE, 4, 3, 0)):
            self.check_all_words(code)

    def test_just_beyond(self):
        for field in LARGE:
            turn = chance("roots beyond", field.told())
            for length, extra, first in some_codes(field):
                if extra <= 12:
                    self.check_just_beyond(RootCode(field, length, extra, first), turn)

    def test_large_ones(self):
        for field in (SIXTY_ONE, SIXTY_FOUR):
            turn = chance("large roots", field.told())
            for extra in (31, 57):
                self.check_just_beyond(RootCode(field, field.many - 1, extra, 0), turn)

    def test_refusals(self):
        for field in LARGE + (FOUR, FIVE):
            for length, extra, first in some_codes(field):
                self.check_refusals(RootCode(field, length, extra, first))

    def test_told(self):
        self.assertEqual(RootCode(SIXTEEN, 15, 4, 1).told(), "roots 15 4 1")
        self.assertEqual(RootCode(SIXTEEN, 15, 4).told(), "roots 15 4 1")
        self.assertEqual(RootCode(SIXTEEN_STEP_3, 8, 7, 0).told(), "roots 8 7 0")

    def test_wrong_places(self):
        code = RootCode(SIXTEEN, 15, 6)
        word = code.written([7] * 9)
        handed = list(word)
        for place in (14, 2):
            handed[place] ^= 5
        handed[8] = None
        handed[0] = None
        due = [(2, word[2] ^ 5, word[2]), (14, word[14] ^ 5, word[14])]
        self.assertEqual(asked(self, code.mended, handed), (word, due))


if __name__ == "__main__":
    unittest.main()

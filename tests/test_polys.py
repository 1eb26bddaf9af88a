"""Points 10 to 13, and 2 for them: polynomials over a field as lists."""

import unittest

from helpers import EIGHT, FIELDS, FOUR, SEVEN, SIXTEEN, THREE, TWO, all_words, asked, chance, some_row
from mendfield.errors import ByNought
from mendfield.polys import (poly_divided, poly_greatest, poly_minus, poly_plus, poly_times, slope, trimmed,
                             value_at)


def plain_trimmed(a):
    a = list(a)
    while a and a[-1] == 0:
        a.pop()
    return a


def at(a, k):
    return a[k] if 0 <= k < len(a) else 0


def plain_times(field, a, b):
    """Place by place, the sum over all pairs that meet there."""
    found = []
    for k in range(len(a) + len(b)):
        total = 0
        for i in range(k + 1):
            total = field.plus(total, field.times(at(a, i), at(b, k - i)))
        found.append(total)
    return plain_trimmed(found)


def plain_plus(field, a, b):
    return plain_trimmed([field.plus(at(a, k), at(b, k)) for k in range(max(len(a), len(b)))])


def some_polys(field):
    """Empty ones, all 0, with 0s at their end, and longer ones."""
    turn = chance("polys", field.told())
    found = [[], [0], [0, 0, 0], [1], [field.many - 1], [0, 1], [1, 1, 0, 0]]
    for length in (2, 3, 5, 8):
        found.append(some_row(field, length, turn))
        found.append(some_row(field, length, turn) + [0, 0])
        found.append([0] * length + [1])
    return found


def long_polys(field):
    turn = chance("long polys", field.told())
    return [some_row(field, 69, turn) + [1], some_row(field, 70, turn), [0] * 69 + [1], [1] * 40 + [0] * 30]


def pairs(field):
    some = some_polys(field)
    long = long_polys(field)
    return [(a, b) for a in some for b in some] + [(a, b) for a in long for b in long + some[:9]]


class Trimmed(unittest.TestCase):
    def test_trimmed(self):
        for handed, due in (([], []), ([0], []), ([0, 0], []), ([1], [1]), ([0, 1], [0, 1]), ([1, 0], [1]),
                            ([0, 3, 0, 2, 0, 0], [0, 3, 0, 2]), ([5] * 70, [5] * 70), ([0] * 70, [])):
            self.assertEqual(asked(self, trimmed, handed), due)


class PlusAndMinus(unittest.TestCase):
    def test_some_by_hand(self):
        self.assertEqual(poly_plus(SEVEN, [1, 2, 3], [6, 5]), [0, 0, 3])
        self.assertEqual(poly_plus(SEVEN, [1, 2, 3], [6, 5, 4]), [])
        self.assertEqual(poly_minus(SEVEN, [1], [2, 3]), [6, 4])
        self.assertEqual(poly_minus(SEVEN, [4, 5, 6], [3, 5, 6, 0]), [1])
        self.assertEqual(poly_plus(EIGHT, [5, 3], [3, 3]), [6])

    def test_plus(self):
        for field in FIELDS:
            for a, b in pairs(field):
                self.assertEqual(asked(self, poly_plus, field, a, b), plain_plus(field, a, b), (field.told(), a, b))

    def test_minus(self):
        for field in FIELDS:
            for a, b in pairs(field):
                told = asked(self, poly_minus, field, a, b)
                self.assertEqual(told, plain_trimmed(told))
                self.assertEqual(plain_plus(field, told, b), plain_trimmed(a), (field.told(), a, b))


class Times(unittest.TestCase):
    def test_some_by_hand(self):
        self.assertEqual(poly_times(SEVEN, [6, 1], [1, 1]), [6, 0, 1])
        self.assertEqual(poly_times(TWO, [1, 1], [1, 1]), [1, 0, 1])
        self.assertEqual(poly_times(SIXTEEN, [2, 1], [3, 1]), [6, 1, 1])

    def test_times(self):
        for field in FIELDS:
            for a, b in pairs(field):
                self.assertEqual(asked(self, poly_times, field, a, b), plain_times(field, a, b), (field.told(), a, b))


class Divided(unittest.TestCase):
    def check(self, field, a, b):
        told = asked(self, poly_divided, field, a, b)
        self.assertIs(type(told), tuple)
        quotient, rest = told
        self.assertEqual(quotient, plain_trimmed(quotient))
        self.assertEqual(rest, plain_trimmed(rest))
        self.assertLess(len(rest), len(plain_trimmed(b)), (field.told(), a, b))
        back = plain_plus(field, plain_times(field, quotient, b), rest)
        self.assertEqual(back, plain_trimmed(a), (field.told(), a, b))

    def test_some_by_hand(self):
        self.assertEqual(poly_divided(SEVEN, [6, 0, 1], [1, 1]), ([6, 1], []))
        self.assertEqual(poly_divided(SEVEN, [1, 0, 1], [1, 1, 0]), ([6, 1], [2]))
        self.assertEqual(poly_divided(SEVEN, [1, 2], [0, 0, 3]), ([], [1, 2]))
        self.assertEqual(poly_divided(SEVEN, [1, 2], [3]), ([5, 3], []))

    def test_divided(self):
        for field in FIELDS:
            for a, b in pairs(field):
                if any(b):
                    self.check(field, a, b)

    def test_all_small_ones(self):
        for field in (TWO, THREE, FOUR):
            for a in all_words(field, 3):
                for b in all_words(field, 2):
                    if any(b):
                        self.check(field, a, b)

    def test_by_nought(self):
        for field in FIELDS:
            for a in some_polys(field):
                for b in ([], [0], [0, 0], [0] * 70):
                    with self.assertRaises(ByNought):
                        asked(self, poly_divided, field, a, b)


class Greatest(unittest.TestCase):
    def check(self, field, a, b):
        told = asked(self, poly_greatest, field, a, b)
        self.assertIs(type(told), tuple)
        greatest, u, v = told
        for part in told:
            self.assertEqual(part, plain_trimmed(part))
            self.assertLessEqual(len(part), 140)
        made = plain_plus(field, plain_times(field, u, a), plain_times(field, v, b))
        self.assertEqual(made, greatest, (field.told(), a, b))
        return greatest

    def test_a_common_part_both_ways_round(self):
        for field in FIELDS:
            # Of the next two nothing but numbers divides both.
            common = [1, 1, 1]
            a = plain_times(field, common, [0, 1])
            b = plain_times(field, common, [1, 1])
            self.assertEqual(self.check(field, a, b), common)
            self.assertEqual(self.check(field, b, a + [0, 0]), common)
            top = field.many - 1
            self.assertEqual(self.check(field, field.scaled(top, a), b), common)

    def test_one_of_them_0(self):
        for field in FIELDS:
            for a in some_polys(field) + long_polys(field):
                if any(a):
                    alone = plain_trimmed(a)
                    due = [field.over(x, alone[-1]) for x in alone]
                    for nought in ([], [0], [0, 0]):
                        self.assertEqual(self.check(field, a, nought), due)
                        self.assertEqual(self.check(field, nought, a), due)

    def test_both_0(self):
        for field in FIELDS:
            for a in ([], [0], [0, 0]):
                for b in ([], [0]):
                    self.assertEqual(self.check(field, a, b), [])

    def test_the_longest_that_divides_both(self):
        for field in (TWO, THREE, FOUR):
            ones = [word + [1] for length in range(3) for word in all_words(field, length)]
            some = [word for word in all_words(field, 3) if any(word)]
            parts = {tuple(a): [d for d in ones if poly_divided(field, a, d)[1] == []] for a in some}
            for a in some:
                for b in some:
                    common = [d for d in parts[tuple(a)] if d in parts[tuple(b)]]
                    self.assertEqual(self.check(field, a, b), max(common, key=len), (field.told(), a, b))

    def test_it_divides_both(self):
        for field in FIELDS:
            for a, b in pairs(field):
                if any(a) or any(b):
                    greatest = self.check(field, a, b)
                    self.assertEqual(greatest[-1], 1)
                    for part in (a, b):
                        self.assertEqual(poly_divided(field, part, greatest)[1], [])


class Values(unittest.TestCase):
    def test_some_by_hand(self):
        self.assertEqual(value_at(SEVEN, [1, 2, 3], 2), 3)
        self.assertEqual(value_at(SIXTEEN, [1, 0, 1], 2), 5)

    def test_of_nought_and_at_nought(self):
        for field in FIELDS:
            for x in range(field.many):
                self.assertEqual(value_at(field, [], x), 0)
                self.assertEqual(value_at(field, [0, 0], x), 0)
            for a in some_polys(field):
                self.assertEqual(value_at(field, a, 0), at(a, 0))

    def test_values(self):
        for field in FIELDS:
            for a in some_polys(field) + long_polys(field):
                kept = list(a)
                for x in range(min(field.many, 17)):
                    total = 0
                    for k, number in enumerate(a):
                        total = field.plus(total, field.times(number, field.power(x, k)))
                    self.assertEqual(value_at(field, a, x), total, (field.told(), a, x))
                self.assertEqual(a, kept)


class Slopes(unittest.TestCase):
    def test_some_by_hand(self):
        self.assertEqual(slope(SEVEN, [5, 4, 3, 2]), [4, 6, 6])
        self.assertEqual(slope(THREE, [1, 1, 1, 1, 1]), [1, 2, 0, 1])
        self.assertEqual(slope(FOUR, [1, 2, 3, 1]), [2, 0, 1])

    def test_where_often_an_element_is_0(self):
        for field, by in ((TWO, 2), (THREE, 3), (FOUR, 2), (SEVEN, 7), (EIGHT, 2)):
            self.assertEqual(slope(field, [1] + [0] * (by - 1) + [1]), [])
            self.assertEqual(slope(field, [1, 1] + [0] * (by - 2) + [1]), [1])

    def test_of_short_ones(self):
        for field in FIELDS:
            for a in ([], [0], [1], [field.many - 1], [1, 0, 0]):
                self.assertEqual(asked(self, slope, field, a), [])

    def test_slopes(self):
        for field in FIELDS:
            for a in some_polys(field) + long_polys(field):
                due = [0] * len(a)
                for k in range(1, len(a)):
                    for turn in range(k):
                        due[k - 1] = field.plus(due[k - 1], a[k])
                self.assertEqual(asked(self, slope, field, a), plain_trimmed(due), (field.told(), a))


if __name__ == "__main__":
    unittest.main()

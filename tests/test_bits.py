"""Points 4, 5, 6: polynomials of bits, the greatest of two, which number stands alone."""

import unittest

from mendfield.bits import bits_divided, bits_greatest, bits_times, stands_alone
from mendfield.errors import ByNought

# Numbers of just sixty figures: all alike, few, mixed, with long runs of binary ones and noughts.
LONG = (10 ** 60 - 1, 10 ** 59, int("1234567890" * 6), int("918273645546372819" * 4) // 10 ** 12,
        2 ** 198, 2 ** 199 - 1, 2 ** 198 + 2 ** 100 + 1)


def powers_in(a):
    return {k for k in range(a.bit_length()) if a // 2 ** k % 2 == 1}


def plain_product(a, b):
    """The product by the powers of X that are in it, each pair of alike ones falling away."""
    met = set()
    for i in powers_in(a):
        for j in powers_in(b):
            met ^= {i + j}
    return sum(2 ** k for k in met)


def divisors(a):
    """All numbers that divide a, which is not 0, without rest."""
    return [b for b in range(1, 2 ** a.bit_length()) if bits_divided(a, b)[1] == 0]


class Long(unittest.TestCase):
    def test_the_long_ones_have_sixty_figures(self):
        for a in LONG:
            self.assertEqual(len(str(a)), 60, a)


class Times(unittest.TestCase):
    def test_three_times_three(self):
        self.assertEqual(bits_times(3, 3), 5)

    def test_some_by_hand(self):
        self.assertEqual(bits_times(2, 2), 4)
        self.assertEqual(bits_times(7, 3), 9)
        self.assertEqual(bits_times(5, 7), 27)
        self.assertEqual(bits_times(255, 255), 0b101010101010101)

    def test_nought_and_one_on_either_side(self):
        for a in (0, 1, 2, 3, 100, 4095) + LONG:
            self.assertEqual(bits_times(a, 0), 0)
            self.assertEqual(bits_times(0, a), 0)
            self.assertEqual(bits_times(a, 1), a)
            self.assertEqual(bits_times(1, a), a)

    def test_small_ones(self):
        for a in range(70):
            for b in range(70):
                self.assertEqual(bits_times(a, b), plain_product(a, b), (a, b))

    def test_long_ones(self):
        for a in LONG:
            for b in LONG + (2, 3, 12345):
                self.assertEqual(bits_times(a, b), plain_product(a, b), (a, b))
                self.assertEqual(bits_times(b, a), plain_product(a, b), (a, b))


class Divided(unittest.TestCase):
    def check(self, a, b):
        told = bits_divided(a, b)
        self.assertIs(type(told), tuple)
        quotient, rest = told
        self.assertEqual(plain_product(quotient, b) ^ rest, a, (a, b))
        self.assertLess(rest.bit_length(), b.bit_length(), (a, b))
        self.assertGreaterEqual(quotient, 0)
        self.assertGreaterEqual(rest, 0)

    def test_some_by_hand(self):
        self.assertEqual(bits_divided(5, 3), (3, 0))
        self.assertEqual(bits_divided(7, 3), (2, 1))
        self.assertEqual(bits_divided(2, 3), (1, 1))
        self.assertEqual(bits_divided(19, 4), (4, 3))

    def test_edges(self):
        self.assertEqual(bits_divided(0, 1), (0, 0))
        self.assertEqual(bits_divided(0, 19), (0, 0))
        self.assertEqual(bits_divided(1, 2), (0, 1))
        self.assertEqual(bits_divided(1, 1), (1, 0))
        for a in (1, 6, 4095) + LONG:
            self.assertEqual(bits_divided(a, 1), (a, 0))
            self.assertEqual(bits_divided(a, a), (1, 0))

    def test_small_ones(self):
        for a in range(300):
            for b in range(1, 80):
                self.check(a, b)

    def test_long_ones(self):
        for a in LONG + (0, 1, 77):
            for b in LONG + (1, 2, 3, 19, 4095, 10 ** 30):
                self.check(a, b)

    def test_by_nought(self):
        for a in (0, 1, 2, 4095) + LONG:
            with self.assertRaises(ByNought):
                bits_divided(a, 0)


class Greatest(unittest.TestCase):
    def test_a_common_part_both_ways_round(self):
        # (X + 1)(X^2 + X + 1) and (X + 1)(X + 1) have X + 1 in common.
        self.assertEqual(bits_greatest(9, 5), 3)
        self.assertEqual(bits_greatest(5, 9), 3)

    def test_nought(self):
        self.assertEqual(bits_greatest(0, 0), 0)
        for a in (1, 2, 3, 6, 4095) + LONG:
            self.assertEqual(bits_greatest(a, 0), a)
            self.assertEqual(bits_greatest(0, a), a)
            self.assertEqual(bits_greatest(a, a), a)
            self.assertEqual(bits_greatest(a, 1), 1)
            self.assertEqual(bits_greatest(1, a), 1)

    def test_small_ones(self):
        known = {a: divisors(a) for a in range(1, 100)}
        for a in known:
            for b in known:
                common = [c for c in known[a] if c in known[b]]
                self.assertEqual(bits_greatest(a, b), max(common, key=int.bit_length), (a, b))

    def test_long_ones(self):
        # X^2 + X + 1 and X + 1 have nothing in common, so just the factor is left.
        for common in (3, 19, 10 ** 29 + 1, LONG[0]):
            a = bits_times(common, 7)
            b = bits_times(common, 3)
            self.assertEqual(bits_greatest(a, b), common)
            self.assertEqual(bits_greatest(b, a), common)
        for a in LONG:
            for b in LONG:
                found = bits_greatest(a, b)
                self.assertEqual(bits_divided(a, found)[1], 0)
                self.assertEqual(bits_divided(b, found)[1], 0)
                left = (bits_divided(a, found)[0], bits_divided(b, found)[0])
                self.assertEqual(bits_greatest(*left), 1)


class StandsAlone(unittest.TestCase):
    def test_nought_and_one(self):
        self.assertIs(stands_alone(0), False)
        self.assertIs(stands_alone(1), False)

    def test_the_first_ones(self):
        self.assertEqual([a for a in range(64) if stands_alone(a)],
                         [2, 3, 7, 11, 13, 19, 25, 31, 37, 41, 47, 55, 59, 61])

    def test_all_from_0_to_4095(self):
        products = set()
        for a in range(2, 64):
            for b in range(a, 2 ** (13 - a.bit_length())):
                products.add(plain_product(a, b))
        for a in range(4096):
            self.assertIs(stands_alone(a), a > 1 and a not in products, a)

    def test_against_dividing_by_all_below(self):
        for a in list(range(2, 260)) + list(range(1020, 1040)) + list(range(2040, 2060)) + list(range(4080, 4096)):
            divided = any(bits_divided(a, b)[1] == 0 for b in range(2, a))
            self.assertIs(stands_alone(a), not divided, a)

    def test_how_many_there_are(self):
        # By the count of such polynomials for each highest power from 1 to 11.
        counts = [len([a for a in range(2 ** k, 2 ** (k + 1)) if stands_alone(a)]) for k in range(1, 12)]
        self.assertEqual(counts, [2, 1, 2, 3, 6, 9, 18, 30, 56, 99, 186])


if __name__ == "__main__":
    unittest.main()

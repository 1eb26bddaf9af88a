"""Points 7, 8, 9, and 34 for fields: bit fields, prime fields and what each field has."""

import unittest

from mendfield.errors import ByNought, NoField
from mendfield.fields import BitField, Field, PrimeField

BIT_NUMBERS = (7, 11, 13, 19, 25, 31, 37, 41, 47, 55, 59, 61, 67, 73, 87, 91, 97, 103, 109, 115, 117)
PRIMES = (2, 3, 5, 7, 11, 13, 17, 19, 23, 29, 31, 37, 41, 43, 47, 53, 59, 61)
LONG = (10 ** 60 - 1, 10 ** 59, int("1234567890" * 6), 2 ** 198, 2 ** 199 - 1)
FAR = (10 ** 6, 10 ** 9 + 7, 2 ** 61 - 1, 10 ** 60 - 1)


def plain_bit_times(number, a, b):
    """The product shifted together figure by figure, brought back below the highest figure each time."""
    top = 2 ** (number.bit_length() - 1)
    product = 0
    while b:
        if b % 2 == 1:
            product ^= a
        b //= 2
        a *= 2
        if a >= top:
            a ^= number
    return product


class PlainField:
    """A field told anew in the plainest way, to hold the program's against."""

    def __init__(self, kind, number):
        self.kind = kind
        self.number = number
        self.many = 2 ** (number.bit_length() - 1) if kind == "bits" else number

    def made(self):
        return BitField(self.number) if self.kind == "bits" else PrimeField(self.number)

    def plus(self, a, b):
        return a ^ b if self.kind == "bits" else (a + b) % self.number

    def times(self, a, b):
        return plain_bit_times(self.number, a, b) if self.kind == "bits" else a * b % self.number

    def power(self, a, n):
        """By squaring; n from 0 on."""
        product = 1
        while n:
            if n % 2 == 1:
                product = self.times(product, a)
            a = self.times(a, a)
            n //= 2
        return product

    def often(self, n, a):
        """By doubling; n from 0 on."""
        total = 0
        while n:
            if n % 2 == 1:
                total = self.plus(total, a)
            a = self.plus(a, a)
            n //= 2
        return total

    def run(self, a):
        """a to the powers 0 to many less two."""
        found = [1]
        while len(found) < self.many - 1:
            found.append(self.times(found[-1], a))
        return found

    def step(self):
        others = set(range(1, self.many))
        return [a for a in range(self.many) if set(self.run(a)) | {self.power(a, self.many)} == others][0]


PLAIN = tuple([PlainField("bits", n) for n in BIT_NUMBERS] + [PlainField("prime", n) for n in PRIMES])
SMALL = tuple(plain for plain in PLAIN if plain.many <= 16)


def each(some):
    """Pairs of the plain field and the program's."""
    return [(plain, plain.made()) for plain in some]


class Making(unittest.TestCase):
    def test_bit_fields(self):
        for number in BIT_NUMBERS:
            field = BitField(number)
            self.assertIsInstance(field, Field)
            self.assertEqual(field.bits, number)
            self.assertEqual(field.many, 2 ** (len(bin(number)) - 3))
        self.assertEqual([BitField(number).many for number in (7, 13, 19, 37, 67)], [4, 8, 16, 32, 64])

    def test_prime_fields(self):
        for number in PRIMES:
            field = PrimeField(number)
            self.assertIsInstance(field, Field)
            self.assertEqual(field.prime, number)
            self.assertEqual(field.many, number)

    def test_no_other_bit_fields(self):
        for number in list(range(-200, 1100)) + list(FAR) + [-n for n in FAR]:
            if number not in BIT_NUMBERS:
                with self.assertRaises(NoField, msg=number):
                    BitField(number)

    def test_edges_of_bit_fields(self):
        # 2 and 3 stand alone, 131 and 137 do too: the bounds refuse them.
        for number in (-7, -1, 0, 1, 2, 3, 4, 5, 6, 126, 127, 128, 129, 131, 137):
            with self.assertRaises(NoField, msg=number):
                BitField(number)

    def test_no_other_prime_fields(self):
        for number in list(range(-200, 1100)) + list(FAR) + [-n for n in FAR]:
            if number not in PRIMES:
                with self.assertRaises(NoField, msg=number):
                    PrimeField(number)

    def test_edges_of_prime_fields(self):
        for number in (-7, -2, -1, 0, 1, 4, 9, 49, 60, 62, 63, 64, 65, 66, 67, 71):
            with self.assertRaises(NoField, msg=number):
                PrimeField(number)

    def test_holds(self):
        for plain, field in each(PLAIN):
            for x in (-1, plain.many, plain.many + 1, -plain.many, 10 ** 60, -10 ** 60, None):
                self.assertIs(field.holds(x), False, (field.told(), x))
            for x in (0, 1, plain.many - 1):
                self.assertIs(field.holds(x), True, (field.told(), x))
            self.assertEqual([x for x in range(-70, 140) if field.holds(x)], list(range(plain.many)))

    def test_a_truth_is_no_whole_number(self):
        for field in (BitField(19), PrimeField(7)):
            self.assertIs(field.holds(True), False)
            self.assertIs(field.holds(False), False)


class Adding(unittest.TestCase):
    def test_some_by_hand(self):
        bits = BitField(19)
        self.assertEqual((bits.plus(5, 3), bits.minus(5, 3), bits.minus(0, 9)), (6, 6, 9))
        self.assertEqual((bits.times(3, 3), bits.times(8, 2), bits.times(15, 15)), (5, 3, 10))
        prime = PrimeField(7)
        self.assertEqual((prime.plus(5, 3), prime.minus(3, 5), prime.times(5, 3)), (1, 5, 1))

    def test_plus_and_minus(self):
        for plain, field in each(PLAIN):
            for a in range(plain.many):
                for b in range(plain.many):
                    total = field.plus(a, b)
                    self.assertEqual(total, plain.plus(a, b), (field.told(), a, b))
                    self.assertEqual(field.minus(total, b), a, (field.told(), a, b))

    def test_times(self):
        for plain, field in each(PLAIN):
            for a in range(plain.many):
                for b in range(plain.many):
                    self.assertEqual(field.times(a, b), plain.times(a, b), (field.told(), a, b))

    def test_dot(self):
        self.assertEqual(PrimeField(7).dot([1, 2, 3], [4, 5, 6]), 4)
        self.assertEqual(BitField(19).dot([3, 8, 0], [3, 2, 7]), 6)
        for plain, field in each(PLAIN):
            xs = [(3 * k + 1) % plain.many for k in range(70)]
            ys = [(k * k + 5) % plain.many for k in range(70)]
            kept = (list(xs), list(ys))
            total = 0
            for x, y in zip(xs, ys):
                total = plain.plus(total, plain.times(x, y))
            self.assertEqual(field.dot(xs, ys), total)
            self.assertEqual((xs, ys), kept)
            self.assertEqual(field.dot(xs, xs), field.dot(list(xs), list(xs)))
            self.assertEqual(xs, kept[0])

    def test_dot_of_empty_lists(self):
        for plain, field in each(PLAIN):
            empty = []
            self.assertEqual(field.dot(empty, []), 0)
            self.assertEqual(empty, [])


class Rows(unittest.TestCase):
    def test_rows_of_elements(self):
        for plain, field in each(PLAIN):
            row = [(3 * k + 1) % plain.many for k in range(70)]
            other = [(k * k + 5) % plain.many for k in range(70)]
            kept = (list(row), list(other))
            for a in range(plain.many):
                due = [plain.times(a, y) for y in other]
                self.assertEqual(field.scaled(a, other), due)
                left = field.lessened(row, a, other)
                self.assertEqual([plain.plus(x, y) for x, y in zip(left, due)], row)
            self.assertEqual((row, other), kept)
            self.assertEqual((field.scaled(1, []), field.lessened([], 1, [])), ([], []))


class Dividing(unittest.TestCase):
    def test_over(self):
        for plain, field in each(PLAIN):
            for a in range(plain.many):
                for b in range(1, plain.many):
                    told = field.over(a, b)
                    self.assertIn(told, range(plain.many))
                    self.assertEqual(plain.times(told, b), a, (field.told(), a, b))

    def test_over_nought(self):
        for plain, field in each(PLAIN):
            for a in range(plain.many):
                with self.assertRaises(ByNought):
                    field.over(a, 0)


class Powers(unittest.TestCase):
    def test_small_powers(self):
        for plain, field in each(SMALL):
            for a in range(plain.many):
                product = 1
                for n in range(2 * plain.many + 3):
                    self.assertEqual(field.power(a, n), product, (field.told(), a, n))
                    if a != 0:
                        self.assertEqual(plain.times(field.power(a, -n), product), 1, (field.told(), a, -n))
                    product = plain.times(product, a)

    def test_long_powers(self):
        for plain, field in each(PLAIN):
            for a in range(1, plain.many):
                for n in LONG:
                    due = plain.power(a, n)
                    self.assertEqual(field.power(a, n), due, (field.told(), a, n))
                    self.assertEqual(plain.times(field.power(a, -n), due), 1, (field.told(), a, -n))

    def test_powers_of_nought(self):
        for plain, field in each(PLAIN):
            self.assertEqual(field.power(0, 0), 1)
            for n in (1, 2, plain.many - 1, plain.many, 100) + LONG:
                self.assertEqual(field.power(0, n), 0, (field.told(), n))
                with self.assertRaises(ByNought, msg=(field.told(), -n)):
                    field.power(0, -n)

    def test_power_nought(self):
        for plain, field in each(PLAIN):
            self.assertEqual({field.power(a, 0) for a in range(plain.many)}, {1})

    def test_often(self):
        for plain, field in each(PLAIN):
            for a in range(plain.many):
                total = 0
                for n in range(10):
                    self.assertEqual(field.often(n, a), total, (field.told(), n, a))
                    total = plain.plus(total, a)
                for n in LONG + (plain.many, plain.many + 1, 1000):
                    self.assertEqual(field.often(n, a), plain.often(n, a), (field.told(), n, a))


class Steps(unittest.TestCase):
    def test_known_steps(self):
        self.assertEqual([PrimeField(p).step for p in PRIMES],
                         [1, 2, 2, 3, 2, 2, 3, 2, 5, 2, 3, 2, 6, 3, 5, 2, 2, 2])
        self.assertEqual([BitField(n).step for n in (7, 11, 13, 19, 31)], [2, 2, 2, 2, 3])

    def test_the_step_is_the_least(self):
        for plain, field in each(PLAIN):
            self.assertEqual(field.step, plain.step(), field.told())

    def test_step_power(self):
        for plain, field in each(PLAIN):
            run = plain.run(field.step)
            round_long = plain.many - 1
            self.assertEqual(sorted(run), list(range(1, plain.many)))
            for n in range(2 * plain.many + 2):
                self.assertEqual(field.step_power(n), run[n % round_long], (field.told(), n))
                self.assertEqual(plain.times(field.step_power(-n), field.step_power(n)), 1, (field.told(), -n))
            for n in LONG:
                due = plain.power(field.step, n)
                self.assertEqual(field.step_power(n), due, (field.told(), n))
                self.assertEqual(plain.times(field.step_power(-n), due), 1, (field.told(), -n))

    def test_steps(self):
        for plain, field in each(PLAIN):
            run = plain.run(field.step)
            for a in range(1, plain.many):
                self.assertEqual(field.steps(a), run.index(a), (field.told(), a))
            self.assertEqual(field.steps(1), 0)

    def test_steps_of_nought(self):
        for plain, field in each(PLAIN):
            with self.assertRaises(ByNought):
                field.steps(0)

    def test_wide(self):
        for plain, field in each(PLAIN):
            self.assertLessEqual(2 ** field.wide, plain.many)
            self.assertGreater(2 ** (field.wide + 1), plain.many)
        self.assertEqual([PrimeField(p).wide for p in (2, 3, 5, 7, 31, 37, 61)], [1, 1, 2, 2, 4, 5, 5])
        self.assertEqual([BitField(n).wide for n in (7, 11, 19, 37, 67)], [2, 3, 4, 5, 6])


class Told(unittest.TestCase):
    def test_told(self):
        self.assertEqual(BitField(19).told(), "bits 19")
        self.assertEqual(PrimeField(7).told(), "prime 7")
        for plain, field in each(PLAIN):
            self.assertEqual(field.told(), plain.kind + " " + str(plain.number))


class Apart(unittest.TestCase):
    def test_fields_do_not_change_one_another(self):
        one = BitField(19)
        ahead = [[one.times(a, b) for a in range(16)] for b in range(16)]
        other = BitField(25)
        third = PrimeField(13)
        for field in (other, third):
            field.power(3, 5)
            field.steps(2)
            with self.assertRaises(ByNought):
                field.over(1, 0)
        self.assertEqual([[one.times(a, b) for a in range(16)] for b in range(16)], ahead)
        self.assertEqual((one.many, one.bits, one.step, one.wide), (16, 19, 2, 4))

    def test_the_same_question_has_the_same_answer(self):
        for plain, field in each(SMALL):
            again = plain.made()
            for a in range(1, plain.many):
                self.assertEqual(field.steps(a), field.steps(a))
                self.assertEqual(field.steps(a), again.steps(a))


if __name__ == "__main__":
    unittest.main()

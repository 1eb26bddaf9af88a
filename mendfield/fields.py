"""The fields: bit fields and prime fields, whose elements are whole numbers from 0 on."""

from mendfield.bits import bits_divided, bits_times, stands_alone
from mendfield.errors import ByNought, NoField


def powers_of(a, product):
    """The powers of a, not 0, from 1 up to the last one ahead of the next 1."""
    found = [1]
    power = product(1, a)
    while power != 1:
        found.append(power)
        power = product(power, a)
    return found


def step_powers(many, product):
    """The powers of the least element whose powers are all of the many elements but 0."""
    step = 1
    found = powers_of(step, product)
    while len(found) < many - 1:
        step += 1
        found = powers_of(step, product)
    return found


def logs_of(powers):
    """The list with n at the place of the n-th of the powers; its place 0 stands for nothing."""
    logs = [0] * (len(powers) + 1)
    for n, a in enumerate(powers):
        logs[a] = n
    return logs


def product_rows(powers, logs):
    """The list that has at place a the products of a with each element, by their steps."""
    many = len(powers) + 1
    rows = [[0] * many]
    for a in range(1, many):
        rows.append([0] + [powers[(logs[a] + logs[b]) % (many - 1)] for b in range(1, many)])
    return rows


def makes_bit_field(bits):
    """Whether a bit field is made by this whole number."""
    # The bounds come first: of far numbers standing alone is slow to tell.
    return 4 <= bits <= 127 and stands_alone(bits)


def makes_prime_field(prime):
    """Whether a prime field is made by this whole number."""
    return 2 <= prime <= 61 and all([prime % d != 0 for d in range(2, prime)])


class Field:
    """The base of the two. Dividing and powers go by the steps of the elements, which are told once."""

    def __init__(self, many, product):
        self.many = many
        self.wide = many.bit_length() - 1
        self.powers = step_powers(many, product)
        self.logs = logs_of(self.powers)
        self.step = self.step_power(1)

    def holds(self, x):
        """Whether x is an element."""
        return isinstance(x, int) and not isinstance(x, bool) and 0 <= x < self.many

    def plus(self, a, b):
        """The sum of a and b."""
        raise NotImplementedError("each kind of field adds in its own way")

    def minus(self, a, b):
        """a less b."""
        raise NotImplementedError("each kind of field takes away in its own way")

    def times(self, a, b):
        """The product of a and b."""
        raise NotImplementedError("each kind of field multiplies in its own way")

    def over(self, a, b):
        """The element that times b is a."""
        if b == 0:
            raise ByNought("an element is divided by 0")
        if a == 0:
            return 0
        return self.step_power(self.logs[a] - self.logs[b])

    def power(self, a, n):
        """a to the power n, which may be below 0; 1 for n = 0."""
        if n == 0:
            return 1
        if a == 0:
            if n < 0:
                raise ByNought("0 is raised to a power below 0")
            return 0
        return self.step_power(self.logs[a] * n)

    def often(self, n, a):
        """The sum of n times a."""
        raise NotImplementedError("each kind of field adds in its own way")

    def step_power(self, n):
        """The step to the power n, which may be below 0."""
        return self.powers[n % (self.many - 1)]

    def steps(self, a):
        """The least n from 0 on with the step to the power n = a."""
        if a == 0:
            raise ByNought("0 is no power of the step")
        return self.logs[a]

    def dot(self, xs, ys):
        """The sum of the products of two lists, place by place."""
        raise NotImplementedError("each kind of field multiplies in its own way")

    def scaled(self, a, row):
        """a times each element of the row."""
        raise NotImplementedError("each kind of field multiplies in its own way")

    def lessened(self, row, a, other):
        """The row less a times the other, place by place."""
        raise NotImplementedError("each kind of field multiplies in its own way")

    def told(self):
        """The field as a text."""
        raise NotImplementedError("each kind of field is told in its own way")


class BitField(Field):
    """The field of the rests by a polynomial of bits that stands alone."""

    def __init__(self, bits):
        if not makes_bit_field(bits):
            raise NoField("a bit field is made by a number from 4 to 127 that stands alone")
        self.bits = bits
        many = 1 << (bits.bit_length() - 1)
        Field.__init__(self, many, lambda a, b: bits_divided(bits_times(a, b), bits)[1])
        # Kept whole, since everything above the fields multiplies rows of elements.
        self.products = product_rows(self.powers, self.logs)

    def plus(self, a, b):
        """The sum of a and b."""
        return a ^ b

    def minus(self, a, b):
        """a less b, which is their sum here."""
        return a ^ b

    def times(self, a, b):
        """The product of a and b."""
        return self.products[a][b]

    def often(self, n, a):
        """The sum of n times a; two of a are 0."""
        return a if n % 2 == 1 else 0

    def dot(self, xs, ys):
        """The sum of the products of two lists, place by place."""
        products = self.products
        total = 0
        for x, y in zip(xs, ys):
            total ^= products[x][y]
        return total

    def scaled(self, a, row):
        """a times each element of the row."""
        by_a = self.products[a]
        return [by_a[x] for x in row]

    def lessened(self, row, a, other):
        """The row less a times the other, place by place."""
        by_a = self.products[a]
        return [x ^ by_a[y] for x, y in zip(row, other)]

    def told(self):
        """The field as a text."""
        return "bits " + str(self.bits)


class PrimeField(Field):
    """The field of the rests by a prime."""

    def __init__(self, prime):
        if not makes_prime_field(prime):
            raise NoField("a prime field is made by a prime from 2 to 61")
        self.prime = prime
        Field.__init__(self, prime, lambda a, b: a * b % prime)

    def plus(self, a, b):
        """The sum of a and b."""
        return (a + b) % self.prime

    def minus(self, a, b):
        """a less b."""
        return (a - b) % self.prime

    def times(self, a, b):
        """The product of a and b."""
        return a * b % self.prime

    def often(self, n, a):
        """The sum of n times a."""
        return n * a % self.prime

    def dot(self, xs, ys):
        """The sum of the products of two lists, place by place."""
        return sum([x * y for x, y in zip(xs, ys)]) % self.prime

    def scaled(self, a, row):
        """a times each element of the row."""
        prime = self.prime
        return [a * x % prime for x in row]

    def lessened(self, row, a, other):
        """The row less a times the other, place by place."""
        prime = self.prime
        return [(x - a * y) % prime for x, y in zip(row, other)]

    def told(self):
        """The field as a text."""
        return "prime " + str(self.prime)

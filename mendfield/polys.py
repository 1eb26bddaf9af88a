"""Polynomials over a field: lists of elements, the number at X to the k at place k, the last one not 0."""

from mendfield.errors import ByNought


def trimmed(a):
    """A new list without the 0s at the end of a."""
    length = len(a)
    while length > 0 and a[length - 1] == 0:
        length -= 1
    return a[:length]


def filled(a, length):
    """A new list with 0s behind a, up to the length; nothing is cut off."""
    return a + [0] * (length - len(a))


def poly_plus(field, a, b):
    """The sum of a and b."""
    length = max(len(a), len(b))
    return trimmed([field.plus(x, y) for x, y in zip(filled(a, length), filled(b, length))])


def poly_minus(field, a, b):
    """a less b."""
    length = max(len(a), len(b))
    return trimmed([field.minus(x, y) for x, y in zip(filled(a, length), filled(b, length))])


def poly_times(field, a, b):
    """The product of a and b."""
    total = [0] * (len(a) + len(b))
    for i, x in enumerate(a):
        for j, y in enumerate(b):
            total[i + j] = field.plus(total[i + j], field.times(x, y))
    return trimmed(total)


def poly_divided(field, a, b):
    """Quotient and rest, the rest with fewer elements than b."""
    divisor = trimmed(b)
    if divisor == []:
        raise ByNought("a polynomial is divided by 0")
    rest = trimmed(a)
    quotient = [0] * (len(rest) - len(divisor) + 1)
    for k in range(len(quotient) - 1, -1, -1):
        factor = field.over(rest[-1], divisor[-1])
        quotient[k] = factor
        # The last element has become 0 and is left out, so that rest[-1] is the next one.
        rest = rest[:k] + field.lessened(rest[k:], factor, divisor)[:-1]
    return (quotient, trimmed(rest))


def poly_greatest(field, a, b):
    """The tuple (greatest, u, v) with u times a + v times b = greatest, whose last element is 1; [] of 0 and 0."""
    one = (trimmed(a), [1], [])
    other = (trimmed(b), [], [1])
    # What is done to the polynomials is done to their factors, too: so each stays u times a + v times b.
    while other[0] != []:
        quotient = poly_divided(field, one[0], other[0])[0]
        left = [poly_minus(field, x, poly_times(field, quotient, y)) for x, y in zip(one, other)]
        one = other
        other = tuple(left)
    if one[0] == []:
        return ([], [], [])
    inverse = field.over(1, one[0][-1])
    return tuple([field.scaled(inverse, part) for part in one])


def value_at(field, a, x):
    """The value of a at x."""
    value = 0
    for number in reversed(a):
        value = field.plus(field.times(value, x), number)
    return value


def slope(field, a):
    """The polynomial that has at place k the sum of k + 1 times a[k + 1]."""
    return trimmed([field.often(k + 1, a[k + 1]) for k in range(len(a) - 1)])

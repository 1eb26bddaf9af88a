"""Polynomials of bits: a number has X to the k where 2 to the k is in its binary writing."""

from mendfield.errors import ByNought


def bits_times(a, b):
    """The product of two polynomials of bits."""
    product = 0
    for k in range(b.bit_length()):
        if (b >> k) & 1 == 1:
            product ^= a << k
    return product


def bits_divided(a, b):
    """Quotient and rest, the rest with fewer binary figures than b."""
    if b == 0:
        raise ByNought("a polynomial of bits is divided by 0")
    quotient = 0
    rest = a
    while rest.bit_length() >= b.bit_length():
        shift = rest.bit_length() - b.bit_length()
        quotient ^= 1 << shift
        rest ^= b << shift
    return (quotient, rest)


def bits_greatest(a, b):
    """The one with the most binary figures that divides both without rest; 0 of 0 and 0."""
    while b != 0:
        rest = bits_divided(a, b)[1]
        a = b
        b = rest
    return a


def stands_alone(a):
    """Whether no number from 2 to a less one divides a without rest; 0 and 1 do not stand alone."""
    if a < 2:
        return False
    # Of two that multiply to a, one has at most half of its highest power: larger ones need no trying.
    half = (a.bit_length() - 1) // 2
    for b in range(2, 1 << (half + 1)):
        if bits_divided(a, b)[1] == 0:
            return False
    return True

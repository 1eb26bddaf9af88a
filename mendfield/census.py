"""Counts: how many words of each weight a code has, and the crossed code and its counts."""

from mendfield.checkcodes import CheckCode
from mendfield.errors import NoCode, TooLarge
from mendfield.papers import refuse_large

MOST_WORDS = 4096


def how_many_words(code):
    """many to the power of size."""
    total = 1
    for place in range(code.size):
        total *= code.field.many
    return total


def all_words(code):
    """Every word of the code."""
    field = code.field
    words = [[0] * code.length]
    for row in code.rows():
        larger = []
        for a in range(field.many):
            larger.extend([field.lessened(word, a, row) for word in words])
        words = larger
    return words


def census(code):
    """The list that has at w how many words have just w signs that are not 0."""
    if how_many_words(code) > MOST_WORDS:
        raise TooLarge("this code has too many words to be counted")
    counts = [0] * (code.length + 1)
    for word in all_words(code):
        counts[code.length - word.count(0)] += 1
    return counts


def crossed_code(code):
    """The code by checks whose checks are the code's rows."""
    refuse_large(code)
    if code.size == code.length:
        raise NoCode("only the word of 0s is crossed with all words")
    return CheckCode(code.field, code.rows())


def powers_up_to(number, most):
    """The number to the powers 0 to most."""
    powers = [1]
    while len(powers) <= most:
        powers.append(powers[-1] * number)
    return powers


def ways_to_choose(most):
    """The list that has at n the list of the ways to choose k of n, for k from 0 to most and n from 0 to most."""
    row = [1] + [0] * most
    rows = [row]
    while len(rows) <= most:
        row = [1] + [row[k] + row[k + 1] for k in range(most)]
        rows.append(row)
    return rows


def crossed_factors(many, length, i):
    """K(i, j) for each j from 0 to the length."""
    powers = powers_up_to(many - 1, length)
    ways = ways_to_choose(length)
    found = []
    for j in range(length + 1):
        parts = [powers[j - s] * ways[i][s] * ways[length - i][j - s] for s in range(j + 1)]
        found.append(sum(parts[0::2]) - sum(parts[1::2]))
    return found


def crossed_census(many, counts):
    """The census of the crossed words, from the census of the words."""
    length = len(counts) - 1
    total = sum(counts)
    factors = [crossed_factors(many, length, i) for i in range(length + 1)]
    found = []
    for j in range(length + 1):
        found.append(sum([counts[i] * factors[i][j] for i in range(length + 1)]) // total)
    return found

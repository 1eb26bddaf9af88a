"""Rules of rows: a rule (L, c) asks that each sign from place L on, with the L ahead of it, by c comes to 0."""

from mendfield.polys import filled, poly_minus


def off_at(field, row, c, place):
    """The sum of c[j] times row[place - j], for all of c."""
    return field.dot(c, [row[place - j] for j in range(len(c))])


def keeps(field, row, rule):
    """Whether a row keeps a rule."""
    return all([off_at(field, row, rule[1], place) == 0 for place in range(rule[0], len(row))])


def shortest(field, row):
    """A rule with the least L that a row keeps."""
    size = 0
    c = [1]
    # The rule that stood ahead of the last longer one, by how much it was off where it failed, and how far back.
    old = [1]
    old_off = 1
    back = 1
    for place in range(len(row)):
        off = off_at(field, row, c, place)
        if off == 0:
            back += 1
        else:
            mended = poly_minus(field, c, [0] * back + field.scaled(field.over(off, old_off), old))
            if 2 * size <= place:
                size = place + 1 - size
                old = c
                old_off = off
                back = 1
            else:
                back += 1
            c = mended
    return (size, filled(c, size + 1))


def drawn_out(field, rule, begin, length):
    """The row of this length that begins so and keeps the rule."""
    size = rule[0]
    row = list(begin)
    while len(row) < length:
        ahead = [row[len(row) - j] for j in range(1, size + 1)]
        row.append(field.minus(0, field.dot(rule[1][1:], ahead)))
    return row

"""Codes: what each has, how words are written, checked and mended; and the codes by repeating."""

from mendfield.errors import NoCode, NoSign, NoWord, TooFar
from mendfield.signs import differences, lost_places
from mendfield.tables import by_column, free_places, kernel_of_reduced, reduced, row_by, width_of


def copied(table):
    """A new table with new rows."""
    return [list(row) for row in table]


def refuse_length(signs, length):
    """Refuses signs that are not so many."""
    if len(signs) != length:
        raise NoWord(f"{length} signs are wanted")


def refuse_no_sign(field, signs):
    """Refuses the first sign that is no element; None is none."""
    for place, sign in enumerate(signs):
        if not field.holds(sign):
            raise NoSign(place)


def refuse_no_sign_but_lost(field, signs):
    """Refuses the first sign that is no element and not lost."""
    for place, sign in enumerate(signs):
        if sign is not None and not field.holds(sign):
            raise NoSign(place)


class Code:
    """The base of the codes: the words that a table of checks sends to 0."""

    def __init__(self, field, checks):
        rows = reduced(field, checks)
        self.field = field
        self.length = width_of(checks)
        self.check_rows = copied(checks)
        self.word_rows = kernel_of_reduced(field, rows, self.length)
        self.message_places = free_places(rows, self.length)
        self.size = len(self.message_places)

    def checks(self):
        """The table of checks."""
        return copied(self.check_rows)

    def rows(self):
        """The kernel of the checks."""
        return copied(self.word_rows)

    def places(self):
        """The places that carry the message, rising."""
        return list(self.message_places)

    def distance(self):
        """At how many places each two unlike words differ at least."""
        raise NotImplementedError("each kind of code has its own distance")

    def written(self, message):
        """The word with the message's signs at the places that carry it."""
        refuse_length(message, self.size)
        refuse_no_sign(self.field, message)
        return row_by(self.field, message, self.word_rows)

    def checked(self, word):
        """The checks times the word."""
        refuse_length(word, self.length)
        refuse_no_sign(self.field, word)
        return by_column(self.field, self.check_rows, word)

    def is_word(self, word):
        """Whether this is a word of the code."""
        if len(word) != self.length or not all([self.field.holds(sign) for sign in word]):
            return False
        return all([x == 0 for x in by_column(self.field, self.check_rows, word)])

    def nearest(self, word):
        """The near word of one whose signs are elements or lost, None where there is none."""
        raise NotImplementedError("each kind of code finds the near word in its own way")

    def mended(self, word):
        """The near word, and what was wrong: tuples (place, was, due), rising."""
        refuse_length(word, self.length)
        refuse_no_sign_but_lost(self.field, word)
        sent = self.nearest(word)
        if sent is None:
            raise TooFar(lost_places(word))
        return (sent, differences(word, sent))

    def message_in(self, word):
        """The message that a word of the code carries."""
        return [word[place] for place in self.message_places]

    def read(self, word):
        """The message of the mended word."""
        return self.message_in(self.mended(word)[0])

    def told(self):
        """The code as a text."""
        raise NotImplementedError("each kind of code is told in its own way")


def repeat_checks(field, length):
    """The checks by which each sign is the same as the last one."""
    less_one = field.minus(0, 1)
    return [[0] * i + [1] + [0] * (length - 2 - i) + [less_one] for i in range(length - 1)]


class RepeatCode(Code):
    """The code whose words have the same sign everywhere."""

    def __init__(self, field, length):
        if length < 2 or length > 24:
            raise NoCode("a code by repeating has a length from 2 to 24")
        Code.__init__(self, field, repeat_checks(field, length))

    def distance(self):
        """The length."""
        return self.length

    def nearest(self, word):
        """The word of the sign that more than half of those not lost are; None where there is none."""
        # With v alike of k not lost, e is k - v and f is length - k: 2e + f below length says k below 2v.
        kept = [sign for sign in word if sign is not None]
        for sign in kept:
            if 2 * kept.count(sign) > len(kept):
                return [sign] * self.length
        return None

    def told(self):
        """The code as a text."""
        return "repeat " + str(self.length)

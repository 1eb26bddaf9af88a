"""What holds for each kind of code: points 28, 32, 33, and 2 and 3 for them."""

import itertools

from helpers import asked, near_ones, plain_by_column, plain_words, some_row, spoilt
from mendfield.codes import Code
from mendfield.errors import NoSign, NoWord, TooFar
from mendfield.tables import kernel, leads, reduced


def lost_in(word):
    return [place for place, sign in enumerate(word) if sign is None]


def differing(word, sent):
    return [(k, was, due) for k, (was, due) in enumerate(zip(word, sent)) if was is not None and was != due]


class CodeChecks:
    """To stand beside unittest.TestCase."""

    def check_code(self, code, field, turn):
        """Point 28, and 33 for what is written and checked."""
        self.assertIsInstance(code, Code)
        self.assertIs(code.field, field)
        checks = asked(self, code.checks)
        self.assertEqual([len(row) for row in checks], [code.length] * len(checks))
        self.assertEqual(asked(self, code.rows), kernel(field, checks))
        places = asked(self, code.places)
        taken = leads(reduced(field, checks))
        self.assertEqual(places, [place for place in range(code.length) if place not in taken])
        self.assertEqual(code.size, len(places))
        for message in [[0] * code.size, [field.many - 1] * code.size, some_row(field, code.size, turn)]:
            word = asked(self, code.written, message)
            self.assertEqual(len(word), code.length)
            self.assertFalse(any(plain_by_column(field, checks, word)))
            self.assertEqual([word[place] for place in places], message)
            self.assertEqual(asked(self, code.checked, word), [0] * len(checks))
            self.assertIs(code.is_word(word), True)
            self.assertEqual(asked(self, code.read, word), message)
            self.assertEqual(asked(self, code.mended, word), (word, []))
            self.assertEqual(asked(self, code.nearest, word), word)
        self.check_wrong_kinds(code, field, turn)

    def refused(self, error, call, handed):
        with self.assertRaises(error) as taken:
            asked(self, call, handed)
        return taken.exception

    def check_wrong_kinds(self, code, field, turn):
        """Point 33."""
        word = code.written(some_row(field, code.size, turn))
        any_word = some_row(field, code.length, turn)
        checked = plain_by_column(field, code.checks(), any_word)
        self.assertEqual(asked(self, code.checked, any_word), checked)
        self.assertIs(code.is_word(any_word), not any(checked))
        for call, right in ((code.written, some_row(field, code.size, turn)), (code.checked, word)):
            for wrong in (right[:-1], right + [0], [], [None] * (len(right) + 1), [field.many] * (len(right) - 1)):
                self.refused(NoWord, call, wrong)
            for place in sorted({0, len(right) // 2, len(right) - 1}):
                for sign in (None, -1, field.many, 10 ** 9):
                    wrong = right[:place] + [sign] + right[place + 1:]
                    self.assertEqual(self.refused(NoSign, call, wrong).place, place)
                    wrong = right[:place] + [sign] * (len(right) - place)
                    self.assertEqual(self.refused(NoSign, call, wrong).place, place)
        for wrong in (word[:-1], word + [0], [], [None] * code.length, word[:-1] + [None], [-1] + word[1:],
                      word[:-1] + [field.many], word[:-1] + [word[-1] + field.many], [None] * (code.length + 1)):
            self.assertIs(asked(self, code.is_word, wrong), False)

    def check_mending(self, code, word, sent):
        """Point 32 for a word of elements and lost signs, sent being the near word or None."""
        self.assertEqual(asked(self, code.nearest, word), sent, (code.told(), word))
        if sent is None:
            for call in (code.mended, code.read):
                self.assertEqual(self.refused(TooFar, call, word).lost, lost_in(word))
        else:
            self.assertEqual(asked(self, code.mended, word), (sent, differing(word, sent)))
            self.assertEqual(asked(self, code.read, word), [sent[place] for place in code.places()])

    def check_all_words(self, code):
        """Points 3 and 32, held against looking at all words."""
        words = plain_words(code.field, code.checks())
        for word in itertools.product([None] + list(range(code.field.many)), repeat=code.length):
            near = near_ones(words, word, code.distance())
            self.assertLessEqual(len(near), 1)
            self.check_mending(code, list(word), near[0] if near else None)

    def check_just_beyond(self, code, turn):
        """2e + f just below the distance, and just at it."""
        field = code.field
        distance = code.distance()
        for wrong in range((distance - 1) // 2 + 1):
            word = code.written(some_row(field, code.size, turn))
            lost = distance - 1 - 2 * wrong
            if wrong + lost <= code.length:
                self.check_mending(code, spoilt(field, word, wrong, lost, turn), word)
            if wrong + lost + 1 <= code.length:
                handed = spoilt(field, word, wrong, lost + 1, turn)
                near = code.nearest(handed)
                self.assertNotEqual(near, word)
                self.assertTrue(near is None or code.is_word(near) and near_ones([near], handed, distance) == [near])

    def check_refusals(self, code):
        """NoWord ahead of NoSign ahead of TooFar."""
        many = code.field.many
        length = code.length
        for call in (code.mended, code.read):
            for word in ([], [many] * (length - 1), [None] * (length + 1), [-1] * (length + 1), [0] * (length - 1)):
                self.refused(NoWord, call, word)
            for place in sorted({0, length // 2, length - 1}):
                for sign in (-1, many, 10 ** 9, -10 ** 9):
                    # All lost ahead of it: none of these is no sign, and too many of them are too far.
                    word = [None] * place + [sign] * (length - place)
                    self.assertEqual(self.refused(NoSign, call, word).place, place)
                    word = [0] * place + [sign] + [None] * (length - place - 1)
                    self.assertEqual(self.refused(NoSign, call, word).place, place)
            self.assertEqual(self.refused(TooFar, call, [None] * length).lost, list(range(length)))

"""Point 25, and 2 for it: the root nearest of a word with lost signs."""

import itertools
import unittest

from helpers import (EIGHT, FIELDS, FIVE, FOUR, SEVEN, SIXTEEN, SIXTY_FOUR, SIXTY_ONE, THREE, all_words, asked,
                     chance, near_ones, some_row, spoilt)
from mendfield.finder import root_sums
from mendfield.polys import poly_times
from mendfield.rootmend import root_nearest
from mendfield.roots import by_roots

LARGE = tuple(field for field in FIELDS if field.many >= 7)


def root_words(field, first, extra, length):
    """All words with all root sums 0, by looking at each."""
    return [word for word in all_words(field, length) if not any(root_sums(field, first, extra, word))]


def some_word(field, first, extra, length, turn):
    """One with all root sums 0: a multiple of the polynomial of the roots."""
    maker = by_roots(field, [field.step_power(first + i) for i in range(extra)])
    word = poly_times(field, maker, some_row(field, length - extra, turn))
    return word + [0] * (length - len(word))


class AllWords(unittest.TestCase):
    def check_all(self, field, first, extra, length, handed):
        words = root_words(field, first, extra, length)
        for word in handed:
            near = near_ones(words, word, extra + 1)
            self.assertLessEqual(len(near), 1)
            told = root_nearest(field, first, extra, list(word))
            self.assertEqual(told, near[0] if near else None, (field.told(), first, extra, word))

    def test_each_word_of_small_fields(self):
        for field, longest in ((THREE, 2), (FOUR, 3), (FIVE, 3)):
            for length in range(2, longest + 1):
                handed = list(itertools.product([None] + list(range(field.many)), repeat=length))
                for first in range(field.many):
                    for extra in range(1, length):
                        self.check_all(field, first, extra, length, handed)

    def test_each_word_of_four_signs(self):
        handed = list(itertools.product([None] + list(range(5)), repeat=4))
        for first, extra in ((0, 2), (1, 2), (2, 1), (3, 3), (4, 2)):
            self.check_all(FIVE, first, extra, 4, handed)

    def test_some_words_of_larger_ones(self):
        for field, length in ((SEVEN, 4), (EIGHT, 4)):
            turn = chance("some words", field.told())
            for first in range(field.many):
                for extra in range(1, length):
                    handed = []
                    for turns in range(40):
                        word = some_row(field, length, turn)
                        for place in turn.sample(range(length), turn.randrange(3)):
                            word[place] = None
                        handed.append(word)
                    self.check_all(field, first, extra, length, handed)


class Mending(unittest.TestCase):
    def lengths(self, field):
        most = field.many - 1
        return sorted({2, most // 2, most})

    def test_nothing_wrong(self):
        for field in LARGE:
            turn = chance("nothing wrong", field.told())
            for length in self.lengths(field):
                for extra in sorted({1, length // 2, length - 1}):
                    for first in (0, 1, field.many - 1):
                        word = some_word(field, first, extra, length, turn)
                        self.assertEqual(asked(self, root_nearest, field, first, extra, word), word)

    def test_just_as_many_as_may_be(self):
        for field in LARGE:
            turn = chance("just", field.told())
            for length in self.lengths(field):
                for extra in sorted({1, 2, length // 2, length - 1} - {length}):
                    for first in (0, 1, field.many // 2, field.many - 1):
                        word = some_word(field, first, extra, length, turn)
                        for wrong in sorted({0, 1, extra // 2} - ({1} if extra < 2 else set())):
                            handed = spoilt(field, word, wrong, extra - 2 * wrong, turn)
                            told = asked(self, root_nearest, field, first, extra, handed)
                            self.assertEqual(told, word, (field.told(), length, extra, first, handed))

    def test_just_one_more(self):
        for field in LARGE:
            turn = chance("one more", field.told())
            for length in self.lengths(field):
                for extra in sorted({1, 2, length // 2, length - 1} - {length}):
                    for wrong in sorted({0, 1, extra // 2} - ({1} if extra < 2 else set())):
                        first = turn.randrange(field.many)
                        word = some_word(field, first, extra, length, turn)
                        handed = spoilt(field, word, wrong, extra - 2 * wrong + 1, turn)
                        told = asked(self, root_nearest, field, first, extra, handed)
                        self.assertNotEqual(told, word)
                        if told is not None:
                            self.check_near(field, first, extra, handed, told)

    def check_near(self, field, first, extra, handed, told):
        self.assertEqual(root_sums(field, first, extra, told), [0] * extra)
        self.assertEqual(near_ones([told], handed, extra + 1), [told])

    def test_one_more_by_hand(self):
        # Length 6 over the field of 7, the word 0: two wrong of which one may be, and one wrong and one lost.
        self.assertIsNone(root_nearest(SEVEN, 1, 2, [1, 2, 0, 0, 0, 0]))
        self.assertIsNone(root_nearest(SEVEN, 1, 2, [1, None, 0, 0, 0, 0]))
        self.assertIsNone(root_nearest(SEVEN, 1, 2, [None, None, None, 0, 0, 0]))
        self.assertEqual(root_nearest(SEVEN, 1, 3, [1, None, 0, 0, 0, 0]), [0] * 6)

    def test_any_word(self):
        for field in LARGE:
            turn = chance("any word", field.told())
            for length in self.lengths(field):
                for extra in sorted({1, length // 2, length - 1}):
                    for turns in range(10):
                        first = turn.randrange(field.many)
                        handed = spoilt(field, some_row(field, length, turn), 0, turn.randrange(extra + 1), turn)
                        told = asked(self, root_nearest, field, first, extra, handed)
                        if told is not None:
                            self.check_near(field, first, extra, handed, told)

    def test_all_lost_but_few(self):
        for field in LARGE:
            turn = chance("all lost", field.told())
            length = field.many - 1
            for kept in (1, 2):
                extra = length - kept
                word = some_word(field, 1, extra, length, turn)
                self.assertEqual(root_nearest(field, 1, extra, spoilt(field, word, 0, extra, turn)), word)
                self.assertIsNone(root_nearest(field, 1, extra, spoilt(field, word, 0, extra + 1, turn)))
                self.assertIsNone(root_nearest(field, 1, extra, [None] * length))

    def test_the_word_0(self):
        for field in LARGE:
            turn = chance("word 0", field.told())
            length = field.many - 1
            nought = [0] * length
            for first in range(field.many):
                self.assertEqual(root_nearest(field, first, 4, nought), nought)
                handed = spoilt(field, nought, 1, 2, turn)
                self.assertEqual(asked(self, root_nearest, field, first, 4, handed), nought)

    def test_each_first(self):
        for field in (SEVEN, EIGHT, SIXTEEN, SIXTY_ONE, SIXTY_FOUR):
            turn = chance("each first", field.told())
            length = field.many - 2
            for first in range(field.many):
                word = some_word(field, first, 4, length, turn)
                handed = spoilt(field, word, 1, 2, turn)
                self.assertEqual(root_nearest(field, first, 4, handed), word)


if __name__ == "__main__":
    unittest.main()

"""Points 22 to 24, and 2 for them: root sums, the finder of places, the signs at places."""

import itertools
import unittest

from helpers import (EIGHT, FIELDS, FIVE, FOUR, SEVEN, SIXTEEN, SIXTEEN_STEP_3, SIXTY_FOUR, SIXTY_ONE, THREE, TWO,
                     all_words, asked, chance, some_row)
from mendfield.finder import place_finder, places_in, root_sums, signs_at
from mendfield.polys import poly_times, value_at


def plain_sums(field, first, extra, word):
    """By powers and sums alone."""
    found = []
    for i in range(extra):
        x = field.power(field.step, first + i)
        total = 0
        for k, sign in enumerate(word):
            total = field.plus(total, field.times(sign, field.power(x, k)))
        found.append(total)
    return found


class RootSums(unittest.TestCase):
    def test_by_hand(self):
        # The step of the field of 7 is 3.
        self.assertEqual(root_sums(SEVEN, 0, 3, [1, 2, 3]), [6, 6, 3])
        self.assertEqual(root_sums(SEVEN, 1, 2, [1, 2, 3]), [6, 3])
        self.assertEqual(root_sums(FOUR, 0, 3, [0, 1]), [1, 2, 3])

    def test_sums(self):
        for field in FIELDS:
            turn = chance("sums", field.told())
            most = field.many - 1
            for first in sorted({0, 1, field.many // 2, most}):
                for extra in sorted({0, 1, field.many // 2, most}):
                    for length in sorted({0, 1, most // 2, most}):
                        word = some_row(field, length, turn)
                        told = asked(self, root_sums, field, first, extra, word)
                        self.assertEqual(told, plain_sums(field, first, extra, word))

    def test_edges(self):
        for field in FIELDS:
            self.assertEqual(asked(self, root_sums, field, 1, 0, [1]), [])
            self.assertEqual(asked(self, root_sums, field, field.many - 1, field.many - 1, []), [0] * (field.many - 1))
            word = [1] * (field.many - 1)
            self.assertEqual(root_sums(field, 0, 1, word), [value_at(field, word, 1)])
            # The step to the power many less one is 1 again.
            self.assertEqual(root_sums(field, field.many - 1, 1, word), root_sums(field, 0, 1, word))


class Finders(unittest.TestCase):
    def test_no_places(self):
        for field in FIELDS:
            self.assertEqual(asked(self, place_finder, field, []), [1])

    def test_by_hand(self):
        self.assertEqual(place_finder(SEVEN, [0]), [1, 6])
        self.assertEqual(place_finder(SEVEN, [1]), [1, 4])
        self.assertEqual(place_finder(SEVEN, [1, 0]), [1, 3, 3])
        self.assertEqual(place_finder(FOUR, [0, 1, 2]), [1, 0, 0, 1])
        self.assertEqual(place_finder(TWO, [0]), [1, 1])

    def test_products(self):
        for field in FIELDS:
            turn = chance("finders", field.told())
            for many in sorted({1, 2, field.many // 2, field.many - 1}):
                places = turn.sample(range(field.many - 1), min(many, field.many - 1))
                told = asked(self, place_finder, field, places)
                due = [1]
                for place in places:
                    due = poly_times(field, due, [1, field.minus(0, field.power(field.step, place))])
                self.assertEqual(told, due)
                self.assertEqual(asked(self, places_in, field, told, field.many - 1), sorted(places))
                self.assertEqual(places_in(field, told + [0, 0], field.many - 1), sorted(places))

    def test_places_below_the_length(self):
        finder = place_finder(SIXTEEN, [14, 0, 7, 3])
        for length, due in ((0, []), (1, [0]), (3, [0]), (4, [0, 3]), (7, [0, 3]), (8, [0, 3, 7]), (14, [0, 3, 7]),
                            (15, [0, 3, 7, 14])):
            self.assertEqual(asked(self, places_in, SIXTEEN, finder, length), due)

    def test_any_polynomial(self):
        for field in FIELDS:
            turn = chance("places in", field.told())
            for length in (1, 2, 3, 6):
                finder = some_row(field, length - 1, turn) + [field.many - 1] + [0] * (length % 3)
                due = []
                for place in range(field.many - 1):
                    if value_at(field, finder, field.power(field.step, -place)) == 0:
                        due.append(place)
                self.assertEqual(asked(self, places_in, field, finder, field.many - 1), due)
            self.assertEqual(places_in(field, [field.many - 1], field.many - 1), [])
            self.assertEqual(places_in(field, [0, 1, 0], field.many - 1), [])


class SignsAt(unittest.TestCase):
    def test_no_places(self):
        for field in FIELDS:
            self.assertEqual(asked(self, signs_at, field, 1, [], []), [])
            self.assertEqual(asked(self, signs_at, field, 0, [], [0]), [])
            self.assertEqual(asked(self, signs_at, field, 0, [], [0] * (field.many - 1)), [])
            self.assertIsNone(asked(self, signs_at, field, 0, [], [field.many - 1]))
            self.assertIsNone(asked(self, signs_at, field, 0, [], [0] * (field.many - 2) + [1]))

    def test_by_hand(self):
        self.assertEqual(signs_at(SEVEN, 0, [0], [5]), [5])
        self.assertEqual(signs_at(SEVEN, 0, [0], [5, 5]), [5])
        self.assertIsNone(signs_at(SEVEN, 0, [0], [5, 4]))
        self.assertEqual(signs_at(SEVEN, 0, [2, 1], root_sums(SEVEN, 0, 2, [0, 4, 6])), [6, 4])

    def test_signs(self):
        for field in FIELDS:
            turn = chance("signs at", field.told())
            most = field.many - 1
            for first in sorted({0, 1, field.many // 2, most}):
                for many in sorted({1, most // 2, most} - {0}):
                    for count in sorted({many, (many + most) // 2, most}):
                        places = turn.sample(range(most), many)
                        signs = some_row(field, many, turn)
                        word = [0] * most
                        for place, sign in zip(places, signs):
                            word[place] = sign
                        sums = plain_sums(field, first, count, word)
                        self.assertEqual(asked(self, signs_at, field, first, places, sums), signs)

    def test_as_many_places_as_sums_have_always_signs(self):
        for field in (THREE, FOUR, FIVE):
            most = field.many - 1
            for many in range(1, most + 1):
                for places in itertools.permutations(range(most), many):
                    for sums in all_words(field, many):
                        signs = signs_at(field, 2, list(places), sums)
                        word = [0] * most
                        for place, sign in zip(places, signs):
                            word[place] = sign
                        self.assertEqual(plain_sums(field, 2, many, word), sums)

    def test_sums_that_no_signs_make(self):
        for field in (FOUR, FIVE):
            most = field.many - 1
            for places in ([0], [2], [1, 0], [2, 1]):
                made = {}
                for signs in all_words(field, len(places)):
                    word = [0] * most
                    for place, sign in zip(places, signs):
                        word[place] = sign
                    made[tuple(plain_sums(field, 1, 3, word))] = signs
                for sums in all_words(field, 3):
                    self.assertEqual(asked(self, signs_at, field, 1, places, sums), made.get(tuple(sums)))

    def test_large_fields(self):
        for field in (EIGHT, SIXTEEN_STEP_3, SIXTY_ONE, SIXTY_FOUR):
            most = field.many - 1
            turn = chance("large signs", field.told())
            places = turn.sample(range(most), most // 2)
            sums = some_row(field, most, turn)
            self.assertIsNone(signs_at(field, 0, places, sums))


if __name__ == "__main__":
    unittest.main()

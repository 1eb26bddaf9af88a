"""Points 35, 36, and 2 and 3 for them: the lightest word, the paper, and whether they stand."""

import copy
import itertools
import unittest

from helpers import (EIGHT, FIELDS, FIVE, FOUR, SEVEN, SIXTEEN, SIXTY_FOUR, SIXTY_ONE, THREE, TWO, asked, chance,
                     some_table, unit_table, weight)
from mendfield.checkcodes import CheckCode
from mendfield.codes import RepeatCode
from mendfield.columns import lightest_row
from mendfield.errors import TooLarge
from mendfield.papers import is_paper, lightest, paper
from mendfield.rootcodes import RootCode
from mendfield.tables import picked, product, rank


def some_codes():
    found = [RootCode(SEVEN, 6, 3), RootCode(EIGHT, 7, 2, 0), RootCode(SIXTEEN, 12, 4), RootCode(FOUR, 3, 2),
             RootCode(THREE, 2, 1), RootCode(SIXTY_ONE, 12, 11), RootCode(SIXTY_FOUR, 8, 1)]
    for field in FIELDS:
        found += [RepeatCode(field, 2), RepeatCode(field, 5), RepeatCode(field, 12), CheckCode(field, [[0, 0]]),
                  CheckCode(field, [[1, 0, 1], [1, 0, 0]]), CheckCode(field, [[1, 1, 1], [1, 1, 1]])]
        turn = chance("papers", field.told())
        for height, width in ((1, 4), (2, 5), (3, 7), (5, 9), (7, 12)):
            table = some_table(field, height, width, turn)
            found.append(CheckCode(field, table + [table[0]]))
    return found


LARGE = (RootCode(SIXTEEN, 13, 4), RepeatCode(TWO, 13), RepeatCode(SEVEN, 24), RootCode(SIXTY_FOUR, 63, 62),
         RootCode(SIXTEEN, 15, 1))


class Lightest(unittest.TestCase):
    def test_a_lightest_word(self):
        for code in some_codes():
            told = asked(self, lightest, code)
            self.assertEqual(told, lightest_row(code.field, code.checks()))
            self.assertTrue(code.is_word(told))
            self.assertEqual(weight(told), code.distance())

    def test_by_hand(self):
        self.assertEqual(lightest(RepeatCode(SEVEN, 4)), [1, 1, 1, 1])
        self.assertEqual(lightest(CheckCode(TWO, [[1, 0, 1], [1, 0, 0]])), [0, 1, 0])
        self.assertEqual(lightest(CheckCode(SEVEN, [[1, 0, 3], [0, 1, 2]])), [1, 3, 2])

    def test_too_large(self):
        for code in LARGE:
            with self.assertRaises(TooLarge):
                lightest(code)


class Papers(unittest.TestCase):
    def test_papers(self):
        for code in some_codes():
            told = asked(self, paper, code)
            size = code.distance() - 1
            self.assertEqual([part[0] for part in told],
                             [list(places) for places in itertools.combinations(range(code.length), size)])
            checks = code.checks()
            for part in told:
                self.assertIs(type(part), tuple)
                places, back = part
                self.assertEqual([len(row) for row in back], [len(checks)] * size)
                if size:
                    self.assertEqual(product(code.field, back, picked(checks, places)), unit_table(size))

    def test_distance_1(self):
        for field in FIELDS:
            for table in ([[0, 0]], [[1, 0, 1], [1, 0, 0]]):
                self.assertEqual(asked(self, paper, CheckCode(field, table)), [([], [])])

    def test_distance_2(self):
        self.assertEqual(paper(CheckCode(SEVEN, [[1, 2, 3]])), [([0], [[1]]), ([1], [[4]]), ([2], [[5]])])
        told = paper(CheckCode(FIVE, [[1, 2], [2, 4]]))
        self.assertEqual([part[0] for part in told], [[0], [1]])

    def test_too_large(self):
        for code in LARGE:
            with self.assertRaises(TooLarge):
                paper(code)
            for word, told in (([], []), ([1] * code.length, [([], [])]), ([0] * code.length, [])):
                with self.assertRaises(TooLarge):
                    is_paper(code, word, told)


def other_papers(told, many):
    """The paper with one thing changed, put in, doubled or left out, anywhere among some of its tuples."""
    found = []
    spots = sorted({0, len(told) // 2, len(told) - 1})
    for spot in spots:
        places, back = told[spot]
        found += [told[:spot] + told[spot + 1:], told[:spot] + [told[spot]] + told[spot:]]
        found += [told[:spot] + [([], [])] + told[spot:], told[:spot] + [(places, back[1:])] + told[spot + 1:]]
        instead = [(places, back + [[0] * (len(back[0]) if back else 1)]), (places, back + [[]])]
        instead += [(places + [0], back), (places[1:], back), (places[1:], back[1:]), (places[::-1] + [-1], back)]
        if places:
            instead += [([places[0] - 1] + places[1:], back), (places[:-1] + [places[-1] + 1], back)]
            instead += [(places[:-1] + [10 ** 9], back), (places, []), (places, back + [back[0]])]
            for row in sorted({0, len(back) - 1}):
                instead.append((places, back[:row] + [back[row] + [0]] + back[row + 1:]))
                instead.append((places, back[:row] + [back[row][1:]] + back[row + 1:]))
                instead.append((places, back[:row] + [[]] + back[row + 1:]))
                instead.append((places, back[:row] + [[0] * len(back[row])] + back[row + 1:]))
                for sign in (-1, many, 10 ** 9):
                    instead.append((places, back[:row] + [[sign] + back[row][1:]] + back[row + 1:]))
                # The same by the rest of the prime, but no element.
                instead.append((places, back[:row] + [back[row][:-1] + [back[row][-1] + many]] + back[row + 1:]))
            if len(places) > 1:
                instead += [(places[::-1], back), (places, back[::-1]), (places[::-1], back[::-1])]
        found += [told[:spot] + [part] + told[spot + 1:] for part in instead]
    if len(told) > 1:
        found += [told[::-1], told[1:] + told[:1], [told[1], told[0]] + told[2:], told + told, []]
        found += [[(told[1][0], told[0][1])] + told[1:], told[:-1] + [(told[0][0], told[-1][1])]]
    return [other for other in found if other != told]


class Standing(unittest.TestCase):
    def stands(self, code, word, told):
        return asked(self, is_paper, code, word, told)

    def test_what_is_told_stands(self):
        for code in some_codes():
            self.assertIs(self.stands(code, lightest(code), paper(code)), True, code.told())

    def test_any_word_of_the_same_weight_stands(self):
        for code in (RootCode(SEVEN, 4, 2), RepeatCode(FIVE, 4), CheckCode(FOUR, [[1, 1, 2]])):
            told = paper(code)
            words = 0
            for signs in itertools.product(range(code.field.many), repeat=code.length):
                word = list(signs)
                due = code.is_word(word) and weight(word) == code.distance()
                words += due
                self.assertIs(is_paper(code, word, told), due, (code.told(), word))
            self.assertGreater(words, 1)

    def test_any_way_back_stands(self):
        # Another way back: more rows than there need be leave a choice.
        code = CheckCode(SEVEN, [[1, 2, 3], [1, 2, 3]])
        told = [([0], [[3, 5]]), ([1], [[4, 0]]), ([2], [[0, 5]])]
        self.assertIs(self.stands(code, lightest(code), told), True)
        told[0] = ([0], [[3, 6]])
        self.assertIs(self.stands(code, lightest(code), told), False)

    def test_words_that_do_not_stand(self):
        for code in some_codes():
            told = paper(code)
            word = lightest(code)
            many = code.field.many
            place = next(k for k, sign in enumerate(word) if sign != 0)
            for other in ([0] * code.length, [], word + [0], word[:-1], [-1] + word[1:], word[:-1] + [many],
                          word[:place] + [word[place] + many] + word[place + 1:],
                          word[:place] + [word[place] - many] + word[place + 1:], [10 ** 9] * code.length):
                self.assertIs(self.stands(code, other, told), False, (code.told(), other))

    def test_a_word_that_is_none_of_the_code_s(self):
        for code in some_codes():
            word = lightest(code)
            told = paper(code)
            for place in range(code.length):
                other = list(word)
                other[place] = code.field.plus(other[place], 1)
                if not code.is_word(other):
                    self.assertIs(is_paper(code, other, told), False)

    def test_a_heavier_word(self):
        code = CheckCode(SEVEN, [[1, 1, 1, 1]])
        heavier = [1, 1, 5, 0]
        self.assertTrue(code.is_word(heavier))
        self.assertIs(self.stands(code, heavier, paper(code)), False)
        # Nor with tuples for its own weight: two of these columns are dependent, so no back is one.
        sets = [list(places) for places in itertools.combinations(range(4), 2)]
        for back in ([[1], [1]], [[1], [0]], [[0], [0]]):
            self.assertIs(self.stands(code, heavier, [(places, back) for places in sets]), False)
        light = CheckCode(SEVEN, [[1, 0, 1], [1, 0, 0]])
        self.assertIs(self.stands(light, [0, 3, 0], [([], [])]), True)
        self.assertIs(self.stands(CheckCode(SEVEN, [[1, 0, 1]]), [1, 1, 6], [([], [])]), False)

    def test_papers_that_do_not_stand(self):
        for code in some_codes():
            told = paper(code)
            word = lightest(code)
            kept = copy.deepcopy(told)
            for other in other_papers(told, code.field.many):
                self.assertIs(is_paper(code, word, other), False, (code.told(), word, other))
            self.assertEqual(told, kept)

    def test_w_1(self):
        code = CheckCode(SEVEN, [[1, 0, 1], [1, 0, 0]])
        word = lightest(code)
        self.assertIs(self.stands(code, word, [([], [])]), True)
        for other in ([], [([], []), ([], [])], [([0], [])], [([], [[]])], [([], [[0, 0]])], [([0], [[1, 0]])]):
            self.assertIs(self.stands(code, word, other), False)

    def test_the_paper_of_another_code(self):
        one = CheckCode(SEVEN, [[1, 2, 3]])
        other = CheckCode(SEVEN, [[1, 2, 4]])
        self.assertIs(self.stands(other, lightest(other), paper(one)), False)

    def test_it_shows_the_distance(self):
        for code in some_codes():
            for places, back in paper(code)[:50]:
                if places:
                    self.assertEqual(rank(code.field, picked(code.checks(), places)), len(places))


if __name__ == "__main__":
    unittest.main()

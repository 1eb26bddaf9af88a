"""Points 1 to 3: the whole promise, from a text to a text, over all kinds of fields and codes."""

import copy
import unittest

from code_checks import differing
from helpers import (EIGHT, FIELDS, FIVE, FOUR, SEVEN, SIXTEEN, SIXTY_FOUR, SIXTY_ONE, THREE, TWO, asked, chance,
                     distance_of, near_ones, plain_words, some_row, spoilt, weight)
from mendfield.census import census
from mendfield.checkcodes import CheckCode
from mendfield.codes import RepeatCode
from mendfield.errors import TooFar
from mendfield.lines import Line
from mendfield.papers import is_paper, lightest, paper
from mendfield.rootcodes import RootCode

TEXT = "Codes that mend what was wrong and what was lost!"


def codes():
    found = [RootCode(SIXTEEN, 15, 6), RootCode(SIXTY_FOUR, 40, 12, 3), RootCode(SIXTY_ONE, 60, 20, 0),
             RootCode(SEVEN, 6, 4, 5), RootCode(EIGHT, 5, 2), RootCode(FIVE, 4, 3),
             CheckCode(SIXTEEN, [[SIXTEEN.power(x, k) for x in range(12)] for k in range(6)]),
             CheckCode(TWO, [[(n >> k) & 1 for n in range(1, 12)] for k in range(4)]),
             CheckCode(THREE, [[1, 0, 1, 1], [0, 1, 1, 2]]), CheckCode(FOUR, [[1, 1, 1, 0], [0, 1, 2, 1]])]
    return found + [RepeatCode(field, 7) for field in FIELDS]


class Whole(unittest.TestCase):
    def test_just_one_near_word_or_a_refusal(self):
        for code in (RootCode(FIVE, 4, 2, 0), CheckCode(THREE, [[1, 0, 1, 1], [0, 1, 1, 2]]), RepeatCode(FOUR, 4),
                     CheckCode(TWO, [[1, 0, 1, 1, 0], [0, 1, 1, 0, 1], [1, 1, 0, 0, 0]]), RootCode(FOUR, 3, 2)):
            words = plain_words(code.field, code.checks())
            self.assertEqual(code.distance(), distance_of(words))
            turn = chance("near", code.told())
            for turns in range(300):
                handed = spoilt(code.field, some_row(code.field, code.length, turn), 0, turn.randrange(3), turn)
                near = near_ones(words, handed, code.distance())
                if near:
                    self.assertEqual(len(near), 1)
                    self.assertEqual(asked(self, code.mended, handed), (near[0], differing(handed, near[0])))
                else:
                    with self.assertRaises(TooFar):
                        asked(self, code.mended, handed)

    def test_the_distance_with_word_and_paper(self):
        for code in codes():
            if code.length <= 12:
                word = lightest(code)
                self.assertTrue(code.is_word(word))
                self.assertEqual(weight(word), code.distance())
                self.assertIs(is_paper(code, word, paper(code)), True)
                if code.field.many ** code.size <= 4096:
                    counts = census(code)
                    self.assertEqual(counts[:code.distance()], [1] + [0] * (code.distance() - 1))
                    self.assertGreater(counts[code.distance()], 0)

    def test_a_text_comes_back_whole(self):
        for code in codes():
            turn = chance("whole", code.told(), code.field.told())
            for depth in (1, 2, 5, 16):
                line = Line(code, depth)
                stream = line.sent(TEXT)
                handed = list(stream)
                for number in range(len(stream) // code.length):
                    begin = number // depth * depth * code.length + number % depth
                    places = range(begin, begin + depth * code.length, depth)
                    wrong = turn.randrange((code.distance() - 1) // 2 + 1)
                    lost = turn.randrange(code.distance() - 2 * wrong)
                    word = spoilt(code.field, [stream[place] for place in places], wrong, lost, turn)
                    for place, sign in zip(places, word):
                        handed[place] = sign
                kept = copy.deepcopy(handed)
                self.assertEqual(line.received(handed), (TEXT, differing(handed, stream)), (code.told(), depth))
                self.assertEqual(handed, kept)

    def test_a_run_anywhere(self):
        for code in codes():
            turn = chance("run", code.told())
            line = Line(code, 6)
            stream = line.sent(TEXT)
            wrong, lost = line.room()
            for turns in range(12):
                handed = list(stream)
                begin = turn.randrange(len(stream) - wrong + 1)
                for place in range(begin, begin + wrong):
                    handed[place] = code.field.plus(handed[place], turn.randrange(1, code.field.many))
                self.assertEqual(line.received(handed), (TEXT, differing(handed, stream)))
                begin = turn.randrange(len(stream) - lost + 1)
                handed = stream[:begin] + [None] * lost + stream[begin + lost:]
                self.assertEqual(line.received(handed), (TEXT, []))


if __name__ == "__main__":
    unittest.main()

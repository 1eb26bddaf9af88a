"""Points 44 to 46, and 2 and 3 for them: lines that send and receive, and their room."""

import unittest

from code_checks import differing
from helpers import EIGHT, FIELDS, FIVE, FOUR, SEVEN, SIXTEEN, SIXTY_FOUR, SIXTY_ONE, THREE, TWO, asked, chance
from mendfield.checkcodes import CheckCode
from mendfield.codes import RepeatCode
from mendfield.errors import NoRows, NoSign, NoText, RowsFar
from mendfield.lines import Line
from mendfield.rootcodes import RootCode
from mendfield.texts import laid

TEXTS = ("", " ", "~", "Hi", "Hello, world", "  two blanks ahead and behind  ")


def some_codes():
    found = [RootCode(SIXTEEN, 15, 4), RootCode(SIXTEEN, 12, 11, 0), RootCode(SEVEN, 6, 2), RootCode(EIGHT, 7, 3, 5),
             RootCode(SIXTY_FOUR, 63, 10), RootCode(SIXTY_ONE, 20, 7), RootCode(FOUR, 3, 2), RootCode(THREE, 2, 1),
             CheckCode(TWO, [[(n >> k) & 1 for n in range(1, 8)] for k in range(3)]),
             CheckCode(SEVEN, [[1, 0, 3], [0, 1, 2]]), CheckCode(SIXTEEN, [[1] * 12, list(range(1, 13))]),
             CheckCode(FIVE, [[0, 1, 1]]), CheckCode(FOUR, [[0, 0]])]
    for field in FIELDS:
        found += [RepeatCode(field, 2), RepeatCode(field, 5)]
    return found


def plain_stream(code, depth, text):
    """Each sign of each word at the place that point 44 tells."""
    signs = laid(code.field, text)
    while len(signs) % (code.size * depth) != 0:
        signs.append(0)
    count = len(signs) // code.size
    stream = [None] * (count * code.length)
    for number in range(count):
        word = code.written(signs[number * code.size:(number + 1) * code.size])
        for j, sign in enumerate(word):
            stream[number // depth * depth * code.length + j * depth + number % depth] = sign
    return stream


class Sending(unittest.TestCase):
    def test_values(self):
        code = RepeatCode(SEVEN, 3)
        self.assertIs(Line(code).code, code)
        self.assertEqual((Line(code).depth, Line(code, 1).depth, Line(code, 16).depth), (1, 1, 16))
        self.assertEqual(Line(code, depth=4).depth, 4)

    def test_depths_that_are_none(self):
        for code in (RepeatCode(SEVEN, 3), RootCode(SIXTEEN, 15, 4)):
            for depth in (0, -1, 17, 18, 10 ** 9, -10 ** 9):
                with self.assertRaises(NoRows):
                    Line(code, depth)

    def test_by_hand(self):
        # "!" is 0 1 0 2 over sixteen elements: words of one sign each, woven two by two.
        self.assertEqual(Line(RepeatCode(SIXTEEN, 3), 2).sent("!"), [0, 1, 0, 1, 0, 1, 0, 2, 0, 2, 0, 2])
        self.assertEqual(Line(RepeatCode(SIXTEEN, 2)).sent("!"), [0, 0, 1, 1, 0, 0, 2, 2])
        # A message of 0s behind the four.
        self.assertEqual(Line(RepeatCode(SIXTEEN, 2), 5).sent("!"), [0, 1, 0, 2, 0] * 2)
        self.assertEqual(Line(RepeatCode(SIXTEEN, 2), 16).sent("!"), ([0, 1, 0, 2] + [0] * 12) * 2)

    def test_where_each_sign_stands(self):
        for code in some_codes():
            for depth in (1, 2, 3, 7, 16):
                line = Line(code, depth)
                for text in TEXTS + ("x" * 200,):
                    stream = asked(self, line.sent, text)
                    self.assertEqual(stream, plain_stream(code, depth, text))
                    self.assertEqual(line.received(stream), (text, []))

    def test_no_text(self):
        for code in (RepeatCode(TWO, 3), RootCode(SIXTEEN, 15, 4)):
            for text in ("x" * 201, "a\n", "\t"):
                with self.assertRaises(NoText):
                    asked(self, Line(code, 2).sent, text)


class Receiving(unittest.TestCase):
    def refused(self, error, line, signs):
        with self.assertRaises(error) as taken:
            asked(self, line.received, signs)
        return taken.exception

    def test_no_rows(self):
        for code in some_codes():
            for depth in (1, 2, 16):
                line = Line(code, depth)
                stream = line.sent("Hi")
                for signs in ([], stream[:-1], stream + [0], stream + [None], [None], [-1],
                              stream[:-1] + [10 ** 9, -1]):
                    if len(signs) % (depth * code.length) != 0 or signs == []:
                        self.refused(NoRows, line, signs)
                if depth > 1:
                    self.refused(NoRows, line, stream + [0] * code.length)

    def test_no_sign(self):
        for code in some_codes():
            line = Line(code, 3)
            stream = line.sent("Hi")
            for place in (0, len(stream) // 2, len(stream) - 1):
                for sign in (-1, code.field.many, 10 ** 9):
                    signs = stream[:place] + [sign] * (len(stream) - place)
                    self.assertEqual(self.refused(NoSign, line, signs).place, place)
                    # Ahead of RowsFar: all others are lost; and lost signs ahead of it are none.
                    signs = [None] * place + [sign] + [None] * (len(stream) - place - 1)
                    self.assertEqual(self.refused(NoSign, line, signs).place, place)

    def test_rows_far(self):
        for code in some_codes():
            for depth in (1, 2, 5):
                line = Line(code, depth)
                stream = line.sent("Hello, world")
                count = len(stream) // code.length
                self.assertEqual(self.refused(RowsFar, line, [None] * len(stream)).numbers, list(range(count)))
                for numbers in ([0], [count - 1], sorted({0, count // 2, count - 1}), sorted({count // 3, count // 2})):
                    signs = list(stream)
                    for number in numbers:
                        for j in range(code.length):
                            signs[number // depth * depth * code.length + j * depth + number % depth] = None
                    self.assertEqual(self.refused(RowsFar, line, signs).numbers, numbers)

    def test_rows_far_ahead_of_no_text(self):
        code = RepeatCode(SIXTEEN, 3)
        line = Line(code)
        self.assertEqual(self.refused(RowsFar, line, [15, 15, 15, 1, 2, 3]).numbers, [1])
        self.refused(NoText, line, [15, 15, 15, 1, 1, 1])
        self.assertEqual(self.refused(RowsFar, line, [3, 2, 1, 0, 0, 0, 1, None, None, 1, 2, None]).numbers, [0, 3])

    def test_no_text(self):
        # Words of the code that carry no text.
        for code in some_codes():
            line = Line(code, 2)
            top = 2 ** code.field.wide - 1
            word = code.written([top] * code.size)
            signs = [sign for sign in word for turn in range(2)]
            many = 8 // code.field.wide + 2
            self.refused(NoText, line, signs * many)
        seven = Line(RepeatCode(SEVEN, 2))
        self.assertEqual(seven.received(seven.sent("a"))[0], "a")
        self.refused(NoText, seven, seven.sent("a") + [4, 4])
        self.refused(NoText, seven, seven.sent("a") + [1, 1])
        self.assertEqual(seven.received(seven.sent("a") + [0, 0]), ("a", []))

    def test_what_was_wrong(self):
        line = Line(RepeatCode(SIXTEEN, 3), 2)
        stream = [0, 1, 0, 1, 0, 1, 0, 2, 0, 2, 0, 2]
        signs = list(stream)
        signs[10] = 7
        signs[1] = 9
        signs[0] = 3
        signs[7] = None
        self.assertEqual(asked(self, line.received, signs), ("!", [(0, 3, 0), (1, 9, 1), (10, 7, 0)]))

    def test_wrong_and_lost_in_each_word(self):
        for code in some_codes():
            field = code.field
            turn = chance("each word", code.told(), field.told())
            for depth in (1, 3, 16):
                line = Line(code, depth)
                for text in ("", "Hello"):
                    stream = line.sent(text)
                    signs = list(stream)
                    for number in range(len(stream) // code.length):
                        begin = number // depth * depth * code.length + number % depth
                        places = turn.sample(range(code.length), min(code.length, code.distance() - 1))
                        wrong = turn.randrange((code.distance() - 1) // 2 + 1)
                        lost = code.distance() - 1 - 2 * wrong
                        for j in places[:wrong]:
                            signs[begin + j * depth] = (signs[begin + j * depth] + 1) % field.many
                        for j in places[wrong:wrong + lost]:
                            signs[begin + j * depth] = None
                    told = asked(self, line.received, signs)
                    self.assertEqual(told, (text, differing(signs, stream)), (code.told(), depth))


class Room(unittest.TestCase):
    def test_room(self):
        self.assertEqual(Line(RootCode(SIXTEEN, 15, 4)).room(), (2, 4))
        self.assertEqual(Line(RootCode(SIXTEEN, 15, 5), 3).room(), (6, 15))
        self.assertEqual(Line(RepeatCode(TWO, 2), 16).room(), (0, 16))
        self.assertEqual(Line(CheckCode(FOUR, [[0, 0]]), 16).room(), (0, 0))
        for code in some_codes():
            for depth in (1, 2, 16):
                most = max(e for e in range(30) if 2 * e < code.distance())
                told = Line(code, depth).room()
                self.assertEqual(told, (depth * most, depth * (code.distance() - 1)))
                self.assertIs(type(told), tuple)

    def test_the_longest_runs_anywhere(self):
        for code in some_codes():
            many = code.field.many
            for depth in (1, 2, 4):
                line = Line(code, depth)
                wrong, lost = line.room()
                stream = line.sent("Hi")
                for begin in range(0, len(stream), 1 if len(stream) < 150 else 7):
                    signs = list(stream)
                    for place in range(begin, min(begin + wrong, len(signs))):
                        signs[place] = (signs[place] + 1) % many
                    self.assertEqual(line.received(signs), ("Hi", differing(signs, stream)))
                    signs = list(stream)
                    for place in range(begin, min(begin + lost, len(signs))):
                        signs[place] = None
                    self.assertEqual(line.received(signs), ("Hi", []))

    def test_a_run_that_is_longer(self):
        for code in some_codes():
            for depth in (1, 3):
                line = Line(code, depth)
                stream = line.sent("Hi")
                lost = line.room()[1] + 1
                with self.assertRaises(RowsFar):
                    line.received([None] * lost + stream[lost:])


if __name__ == "__main__":
    unittest.main()

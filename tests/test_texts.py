"""Points 40, 41, and 2 for them: texts and their bits, laying texts into elements."""

import unittest

from helpers import (EIGHT, FIELDS, FIVE, FOUR, SEVEN, SIXTEEN, SIXTY_FOUR, SIXTY_ONE, THREE, TWO, asked, chance)
from mendfield.errors import NoText
from mendfield.texts import bits_of, laid, text_in, unlaid

ALL = "".join(chr(n) for n in range(32, 127) if n != 37)


def plain_bits(text):
    return f"{len(text):08b}" + "".join(f"{ALL.index(sign):07b}" for sign in text)


def some_texts():
    turn = chance("texts")
    found = ["", " ", "~", "!", "$", "&", "$&", "a", "Hello, world", "\"\\'", "  a  ", ALL, ALL + ALL, "~" * 200,
             " " * 200, "x" * 199]
    return found + ["".join(turn.choice(ALL) for sign in range(length)) for length in (3, 17, 64, 127, 128, 200)]


class Bits(unittest.TestCase):
    def test_by_hand(self):
        self.assertEqual(bits_of(""), "00000000")
        self.assertEqual(bits_of(" "), "00000001" + "0000000")
        self.assertEqual(bits_of("!\""), "00000010" + "0000001" + "0000010")
        self.assertEqual(bits_of("$&~"), "00000011" + "0000100" + "0000101" + "1011101")

    def test_bits(self):
        for text in some_texts():
            told = bits_of(text)
            self.assertEqual(told, plain_bits(text))
            self.assertEqual(text_in(told), text)
            for behind in ("0", "000000", "0" * 1000):
                self.assertEqual(text_in(told + behind), text)

    def test_each_sign(self):
        self.assertEqual(len(ALL), 94)
        for number, sign in enumerate(ALL):
            self.assertEqual(bits_of(sign), "00000001" + f"{number:07b}")
            self.assertEqual(text_in("00000001" + f"{number:07b}"), sign)

    def test_no_text(self):
        for text in ("x" * 201, " " * 300, "\n", "a\nb", "\t", "end\n", "\r", "\x00", "\x1f", "\x7f", "\x80", "\u00e9",
                     "a\u20ac", "\U0001f600", "x" * 200 + "\n"):
            with self.assertRaises(NoText):
                bits_of(text)

    def refused(self, bits):
        with self.assertRaises(NoText, msg=bits):
            text_in(bits)

    def test_cut_off_anywhere(self):
        for text in ("", "a", " ", "Hello", "~" * 20):
            bits = plain_bits(text)
            for end in range(len(bits)):
                self.refused(bits[:end])

    def test_a_length_above_200(self):
        for length in (201, 202, 255):
            self.refused(f"{length:08b}" + "0" * 7 * length)
            self.refused(f"{length:08b}" + "0" * 3000)
            self.refused(f"{length:08b}")
        self.assertEqual(text_in(f"{200:08b}" + "0" * 1400), " " * 200)

    def test_a_number_of_94_or_above(self):
        for number in range(94, 128):
            self.refused("00000001" + f"{number:07b}")
            self.refused("00000011" + "0000000" + f"{number:07b}" + "0000000")
            self.refused("00000010" + "0000000" + f"{number:07b}" + "0000")

    def test_a_1_behind(self):
        for text in ("", "a", "Hello"):
            for behind in ("1", "01", "10", "0000000001", "0" * 500 + "1"):
                self.refused(plain_bits(text) + behind)


class Laying(unittest.TestCase):
    def test_by_hand(self):
        self.assertEqual(laid(TWO, "!"), [0, 0, 0, 0, 0, 0, 0, 1, 0, 0, 0, 0, 0, 0, 1])
        self.assertEqual(laid(SIXTEEN, "!"), [0, 1, 0, 2])
        self.assertEqual(laid(SIXTEEN, ""), [0, 0])
        self.assertEqual(laid(SIXTY_FOUR, ""), [0, 0])
        self.assertEqual(laid(SIXTY_FOUR, "~"), [0, 27, 40])
        self.assertEqual(laid(EIGHT, "!"), [0, 0, 2, 0, 1])

    def test_laid_and_unlaid(self):
        for field in FIELDS:
            wide = field.wide
            for text in some_texts():
                told = asked(self, laid, field, text)
                bits = plain_bits(text)
                self.assertEqual(len(told), -(-len(bits) // wide))
                self.assertTrue(all(0 <= x < 2 ** wide <= field.many for x in told))
                written = "".join(f"{x:0{wide}b}" for x in told)
                self.assertEqual(written, bits + "0" * (len(written) - len(bits)))
                self.assertEqual(asked(self, unlaid, field, told), text)
                self.assertEqual(asked(self, unlaid, field, told + [0, 0, 0]), text)

    def test_the_last_element_just_filled_and_not(self):
        self.assertEqual((len(laid(EIGHT, "a")), len(laid(FOUR, "a")), len(laid(SIXTY_ONE, "a"))), (5, 8, 3))
        self.assertEqual((len(laid(EIGHT, "ab")), len(laid(FOUR, "ab")), len(laid(SIXTY_ONE, "ab"))), (8, 11, 5))

    def test_no_text(self):
        for field in FIELDS:
            for text in ("x" * 201, "a\n", "\t"):
                with self.assertRaises(NoText):
                    laid(field, text)
            for signs in ([], [0], laid(field, "Hello")[:-1], laid(field, "Hello") + [1], [2 ** field.wide - 1] * 400):
                if len(signs) * field.wide >= 8 and not any(signs):
                    continue
                with self.assertRaises(NoText):
                    asked(self, unlaid, field, signs)

    def test_elements_that_are_too_large(self):
        for field, most in ((THREE, 2), (FIVE, 4), (SEVEN, 4), (SIXTY_ONE, 32)):
            fine = laid(field, "Hello")
            for sign in (most, field.many - 1):
                for place in (0, len(fine) // 2, len(fine) - 1):
                    with self.assertRaises(NoText):
                        asked(self, unlaid, field, fine[:place] + [sign] + fine[place + 1:])
                with self.assertRaises(NoText):
                    asked(self, unlaid, field, fine + [sign])

    def test_the_prime_field_of_2(self):
        self.assertEqual(asked(self, unlaid, TWO, [0] * 8), "")
        with self.assertRaises(NoText):
            unlaid(TWO, [0] * 7)
        with self.assertRaises(NoText):
            unlaid(TWO, [0] * 8 + [1])


if __name__ == "__main__":
    unittest.main()

"""Points 47, 48: the orders of a desk, their answers, and what is refused."""

import unittest

from mendfield.checkcodes import CheckCode
from mendfield.codes import RepeatCode
from mendfield.desk import Desk
from mendfield.errors import (MendError, NoCode, NoField, NoOrder, NoPlace, NoRows, NoSign, NoText, NotYet, RowsFar)
from mendfield.fields import BitField, PrimeField
from mendfield.lines import Line
from mendfield.rootcodes import RootCode

BEGIN = ("bits 19", "repeat 3", "depth 2", "send !")
STREAM = "0 1 0 1 0 1 0 2 0 2 0 2"


def desk_after(*orders):
    desk = Desk()
    for order in orders:
        desk.done(order)
    return desk


class DeskCase(unittest.TestCase):
    def answers(self, desk, *pairs):
        for order, due in pairs:
            self.assertEqual(desk.done(order), due, order)

    def refused(self, error, desk, order):
        with self.assertRaises(MendError, msg=order) as taken:
            desk.done(order)
        self.assertIs(type(taken.exception), error, order)
        return taken.exception


class Answers(DeskCase):
    def test_a_whole_talk(self):
        self.answers(Desk(), ("bits 19", "field of 16"), ("repeat 3", "length 3 size 1 distance 3"),
                     ("depth 2", "depth 2"), ("send !", "sent 12"), ("stream", STREAM), ("spoil 0 15", "spoilt"),
                     ("lose 7", "lost"), ("stream", "15 1 0 1 0 1 0 ? 0 2 0 2"), ("mend", "wrong 1 lost 1: !"),
                     ("stream", STREAM), ("mend", "wrong 0 lost 0: !"))

    def test_fields(self):
        desk = Desk()
        for number in (7, 11, 13, 19, 25, 31, 37, 67, 117):
            self.answers(desk, (f"bits {number}", f"field of {BitField(number).many}"))
        for number in (2, 3, 5, 7, 31, 61):
            self.answers(desk, (f"prime {number}", f"field of {number}"))

    def test_codes(self):
        self.answers(Desk(), ("bits 19", "field of 16"), ("roots 15 4 1", "length 15 size 11 distance 5"),
                     ("roots 2 1 0", "length 2 size 1 distance 2"), ("roots 12 11 14", "length 12 size 1 distance 12"),
                     ("repeat 24", "length 24 size 1 distance 24"), ("prime 7", "field of 7"),
                     ("checks 1 0 3/0 1 2", "length 3 size 1 distance 3"),
                     ("checks 0 0", "length 2 size 2 distance 1"), ("checks 1 6", "length 2 size 1 distance 2"),
                     ("checks 1 1 1/1 1 1/0 0 0", "length 3 size 2 distance 2"))

    def test_send_any_text(self):
        for first in ("bits 19", "prime 2", "prime 61"):
            desk = desk_after(first, "repeat 3")
            line = Line(RepeatCode(desk_field(first), 3))
            for text in ("", " ", "  ", " a", "a ", "  a  b  ", "send", "Hello, world", "1 2 3", "~" * 200, "/"):
                stream = line.sent(text)
                self.answers(desk, ("send " + text, f"sent {len(stream)}"),
                             ("stream", " ".join(str(sign) for sign in stream)),
                             ("mend", f"wrong 0 lost 0: {text}"))

    def test_the_same_as_a_line(self):
        for orders, code in ((("bits 19", "roots 15 4 1"), RootCode(BitField(19), 15, 4)),
                             (("prime 61", "roots 10 3 0"), RootCode(PrimeField(61), 10, 3, 0)),
                             (("prime 7", "checks 1 0 3/0 1 2"), CheckCode(PrimeField(7), [[1, 0, 3], [0, 1, 2]]))):
            for depth in (1, 3, 16):
                desk = desk_after(*orders, f"depth {depth}", "send Hello")
                stream = Line(code, depth).sent("Hello")
                self.answers(desk, ("stream", " ".join(str(sign) for sign in stream)))
                last = len(stream) - 1
                other = (stream[last] + 1) % code.field.many
                self.answers(desk, ("lose 0", "lost"), (f"spoil {last} {other}", "spoilt"))
                if depth > 1:
                    self.answers(desk, ("mend", "wrong 1 lost 1: Hello"))

    def test_depth_is_1_at_first_and_stays(self):
        self.answers(Desk(), ("prime 2", "field of 2"), ("repeat 2", "length 2 size 1 distance 2"),
                     ("send ", "sent 16"), ("depth 16", "depth 16"), ("send ", "sent 32"),
                     ("bits 19", "field of 16"), ("repeat 2", "length 2 size 1 distance 2"), ("send ", "sent 32"),
                     ("depth 1", "depth 1"), ("send ", "sent 4"))
        self.answers(Desk(), ("depth 5", "depth 5"), ("prime 2", "field of 2"),
                     ("repeat 2", "length 2 size 1 distance 2"), ("send ", "sent 20"))

    def test_spoil_lost_or_not(self):
        desk = desk_after(*BEGIN)
        self.answers(desk, ("lose 3", "lost"), ("lose 3", "lost"), ("spoil 3 15", "spoilt"), ("spoil 3 0", "spoilt"),
                     ("spoil 3 1", "spoilt"), ("stream", STREAM), ("mend", "wrong 0 lost 0: !"))

    def test_mend_to_other_words(self):
        # All of a word spoilt to another word: nothing is wrong, the text is another one.
        desk = desk_after("bits 19", "repeat 3", "send !")
        self.answers(desk, ("stream", "0 0 0 1 1 1 0 0 0 2 2 2"), ("spoil 9 4", "spoilt"), ("spoil 10 4", "spoilt"),
                     ("mend", 'wrong 1 lost 0: "'), ("stream", "0 0 0 1 1 1 0 0 0 4 4 4"),
                     ("mend", 'wrong 0 lost 0: "'))
        # A text that is shorter than what was sent: all near words stay.
        desk = desk_after("bits 19", "repeat 3", "send  ")
        self.answers(desk, ("spoil 3 0", "spoilt"), ("spoil 5 0", "spoilt"), ("lose 0", "lost"),
                     ("mend", "wrong 1 lost 1: "), ("stream", " ".join(["0"] * 12)))

    def test_desks_are_apart(self):
        one = desk_after(*BEGIN)
        other = Desk()
        self.refused(NotYet, other, "stream")
        other.done("prime 7")
        self.answers(one, ("stream", STREAM))


def desk_field(order):
    kind, number = order.split(" ")
    return BitField(int(number)) if kind == "bits" else PrimeField(int(number))


class MadeNone(DeskCase):
    def test_a_field_makes_code_and_stream_none(self):
        for order in ("bits 19", "bits 7", "prime 5"):
            desk = desk_after(*BEGIN)
            desk.done(order)
            for refused in ("send a", "stream", "mend", "lose 0", "spoil 0 0"):
                self.refused(NotYet, desk, refused)
            self.answers(desk, ("repeat 3", "length 3 size 1 distance 3"))

    def test_a_code_and_a_depth_make_the_stream_none(self):
        for order in ("repeat 3", "roots 3 2 1", "checks 1 1", "depth 2", "depth 1"):
            desk = desk_after(*BEGIN)
            desk.done(order)
            for refused in ("stream", "mend", "lose 0", "spoil 0 0"):
                self.refused(NotYet, desk, refused)
            self.assertTrue(desk.done("send a").startswith("sent "))


class NoOrders(DeskCase):
    ORDERS = ("", " ", "  ", "x", "Bits 19", "BITS 19", "bit 19", "bits", "bits ", "bits  19", " bits 19", "bits 19 ",
              "bits 19 1", "bits x", "bits 019", "bits 00", "bits 1234567", "bits 0000019", "bits -19", "bits +19",
              "bits 1_9", "bits 1.0", "bits19", "prime", "prime ", "prime 07", "prime 7 7", "prime  7", "Prime 7",
              "roots", "roots ", "roots 15", "roots 15 4", "roots 15 4 ", "roots 15 4 1 ", "roots 15 4 1 1",
              "roots  15 4 1", "roots 15  4 1", "roots 15 4 01", "roots 15 4 -1", "roots 15 4 1000000", "roots a b c",
              "repeat", "repeat ", "repeat 05", "repeat 5 ", "repeat 5 5", "repeat -5", "REPEAT 5",
              "checks", "checks ", "checks  ", "checks /", "checks 1/", "checks /1", "checks 1 0//0 1",
              "checks 1 0 /0 1", "checks 1 0/ 0 1",
              "checks 1 0 / 0 1", "checks  1 0", "checks 1  0", "checks 1 0 ", "checks 1 0/0 1/",
              "checks 1 00", "checks 01 1", "checks 1 -1", "checks 1 1234567", "checks 1,0", "checks1 0", "Checks 1 0",
              "depth", "depth ", "depth 02", "depth 2 ", "depth 2 2", "depth -1", "depth x",
              "send", "Send a", "SEND a", "sendx", " send a", "sends a",
              "spoil", "spoil 0", "spoil 0 ", "spoil 0 0 ", "spoil 0 0 0", "spoil  0 0", "spoil 00 0", "spoil 0 ?",
              "spoil 0 -1", "spoil -1 0", "lose", "lose ", "lose 0 ", "lose 00", "lose 0 0", "lose -1", "lose ?",
              "stream ", " stream", "stream 0", "Stream", "streams", "mend ", " mend", "mend 1", "Mend", "MEND",
              "wrong", "told", "read 1", "done", "bits\t19", "0", "19", "?", "/")

    def test_no_order(self):
        desk = desk_after(*BEGIN)
        for order in self.ORDERS:
            self.refused(NoOrder, desk, order)
            self.answers(desk, ("stream", STREAM))

    def test_no_order_ahead_of_not_yet(self):
        for order in self.ORDERS:
            self.refused(NoOrder, Desk(), order)

    def test_numbers(self):
        desk = desk_after(*BEGIN)
        self.refused(NoPlace, desk, "lose 999999")
        self.refused(NoOrder, desk, "lose 1000000")
        self.refused(NoField, desk, "bits 0")
        self.refused(NoField, desk, "bits 999999")
        self.refused(NoRows, desk, "depth 0")


class Refused(DeskCase):
    def test_not_yet(self):
        desk = Desk()
        for order in ("roots 15 4 1", "roots 0 0 0", "repeat 3", "repeat 0", "checks 1 0 3/0 1 2", "checks 1/2 3",
                      "send a", "send ", "send " + "x" * 201, "spoil 0 0", "spoil 99 99", "lose 0", "stream", "mend"):
            self.refused(NotYet, desk, order)
        desk.done("prime 7")
        for order in ("send a", "send ", "send " + "x" * 201, "spoil 0 0", "spoil 99 99", "lose 0", "stream", "mend"):
            self.refused(NotYet, desk, order)
        desk.done("repeat 3")
        for order in ("spoil 0 0", "spoil 99 99", "lose 0", "lose 99", "stream", "mend"):
            self.refused(NotYet, desk, order)

    def test_what_the_stages_tell(self):
        for error, orders in ((NoField, ("bits 0", "bits 6", "bits 3", "bits 131", "prime 0", "prime 1", "prime 4",
                                         "prime 67", "bits 999999")),
                              (NoCode, ("roots 16 4 1", "roots 1 1 1", "roots 15 0 1", "roots 15 15 1",
                                        "roots 15 4 15", "repeat 1", "repeat 25", "repeat 0", "checks 1",
                                        "checks 1 0/0 1", "checks 1 0 0/0 1", "checks 1/1 1", "checks 1 16",
                                        "checks " + "/".join(["1 1"] * 13), "checks " + " ".join(["1"] * 13))),
                              (NoRows, ("depth 0", "depth 17", "depth 999999")),
                              (NoText, ("send " + "x" * 201, "send " + " " * 300))):
            desk = desk_after(*BEGIN)
            desk.done("lose 5")
            for order in orders:
                self.refused(error, desk, order)
                # All is as it was: the stream, and the code, field and depth behind it.
                self.answers(desk, ("stream", "0 1 0 1 0 ? 0 2 0 2 0 2"))
            self.answers(desk, ("mend", "wrong 0 lost 1: !"), ("send !", "sent 12"), ("stream", STREAM),
                         ("checks 15 1", "length 2 size 1 distance 2"))

    def test_depth_is_refused_ahead_of_everything_too(self):
        desk = Desk()
        self.refused(NoRows, desk, "depth 0")
        self.refused(NoRows, desk, "depth 17")
        self.answers(desk, ("prime 2", "field of 2"), ("repeat 2", "length 2 size 1 distance 2"), ("send ", "sent 16"))

    def test_no_place_ahead_of_no_sign(self):
        desk = desk_after(*BEGIN)
        for order in ("spoil 12 0", "spoil 12 16", "spoil 999999 999999", "lose 12", "lose 999999"):
            self.refused(NoPlace, desk, order)
        for place in (0, 7, 11):
            for sign in (16, 17, 999999):
                self.assertEqual(self.refused(NoSign, desk, f"spoil {place} {sign}").place, place)
        self.answers(desk, ("stream", STREAM), ("spoil 11 15", "spoilt"), ("lose 0", "lost"))

    def test_rows_far(self):
        desk = desk_after(*BEGIN)
        for place in (1, 3, 5, 6, 8, 10):
            desk.done(f"lose {place}")
        spoilt = "0 ? 0 ? 0 ? ? 2 ? 2 ? 2"
        for turn in range(2):
            self.assertEqual(self.refused(RowsFar, desk, "mend").numbers, [1, 2])
            self.answers(desk, ("stream", spoilt))
        self.answers(desk, ("spoil 1 1", "spoilt"), ("spoil 6 0", "spoilt"), ("mend", "wrong 0 lost 4: !"))

    def test_no_text(self):
        desk = desk_after("bits 19", "repeat 3", "send !")
        for place in (0, 1):
            desk.done(f"spoil {place} 15")
        for turn in range(2):
            self.refused(NoText, desk, "mend")
            self.answers(desk, ("stream", "15 15 0 1 1 1 0 0 0 2 2 2"))
        self.answers(desk, ("spoil 0 0", "spoilt"), ("mend", "wrong 1 lost 0: !"))

    def test_refused_ones_leave_what_is_not_there(self):
        desk = Desk()
        for order in ("bits 6", "prime 9", "depth 17"):
            with self.assertRaises(MendError):
                desk.done(order)
        self.refused(NotYet, desk, "repeat 3")
        desk.done("bits 7")
        self.refused(NoCode, desk, "repeat 1")
        self.refused(NotYet, desk, "send a")
        self.refused(NoField, desk, "bits 8")
        self.answers(desk, ("repeat 3", "length 3 size 1 distance 3"))
        self.refused(NoText, desk, "send " + "x" * 201)
        self.refused(NotYet, desk, "stream")
        self.refused(NoCode, desk, "roots 4 1 1")
        self.answers(desk, ("send ", "sent 12"))


if __name__ == "__main__":
    unittest.main()

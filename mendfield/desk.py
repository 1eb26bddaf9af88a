"""A desk: orders as texts, each answered with a text."""

from mendfield.checkcodes import CheckCode
from mendfield.codes import RepeatCode
from mendfield.errors import NoOrder, NoPlace, NoSign, NotYet
from mendfield.fields import BitField, PrimeField
from mendfield.lines import Line, refuse_depth
from mendfield.rootcodes import RootCode
from mendfield.signs import differences

FIGURES = "0123456789"
# How many numbers stand behind the name of an order; "checks" and "send" are written in their own ways.
NUMBERS_BEHIND = {"bits": 1, "prime": 1, "roots": 3, "repeat": 1, "depth": 1, "spoil": 2, "lose": 1, "stream": 0,
                  "mend": 0}


def number_in(word):
    """The number that a word of an order tells, in one to six figures, the first no 0 but of 0 itself."""
    if len(word) < 1 or len(word) > 6 or any([sign not in FIGURES for sign in word]):
        raise NoOrder("a number is written in one to six figures")
    if word.startswith("0") and word != "0":
        raise NoOrder("a number is written without a 0 ahead")
    return int(word)


def numbers_in(words):
    """The numbers that the words tell."""
    return [number_in(word) for word in words]


def rows_in(text):
    """The rows of numbers, parted by /, that stand behind "checks"."""
    return [numbers_in(row.split(" ")) for row in text.split("/")]


def parted(order):
    """The tuple (name, what stands behind it): a text for "send", rows for "checks", else a list of numbers."""
    parts = order.partition(" ")
    name = parts[0]
    if name == "send" and parts[1] == " ":
        return (name, parts[2])
    if name == "checks":
        return (name, rows_in(parts[2]))
    words = order.split(" ")
    if NUMBERS_BEHIND.get(name) != len(words) - 1:
        raise NoOrder("there is no such order")
    return (name, numbers_in(words[1:]))


class Desk:
    """A desk has a field, a code, a depth and a stream; what is refused leaves them as they were."""

    def __init__(self):
        self.field = None
        self.code = None
        self.depth = 1
        self.stream = None

    def done(self, order):
        """Does the order and answers it."""
        parts = parted(order)
        name = parts[0]
        behind = parts[1]
        if name in ("bits", "prime"):
            return self.do_field(name, behind[0])
        if name in ("roots", "repeat", "checks"):
            return self.do_code(name, behind)
        if name == "depth":
            return self.do_depth(behind[0])
        if name == "send":
            return self.do_send(behind)
        if self.stream is None:
            raise NotYet("there is no stream yet")
        if name == "spoil":
            return self.do_spoil(behind[0], behind[1])
        if name == "lose":
            return self.do_lose(behind[0])
        if name == "mend":
            return self.do_mend()
        return " ".join(["?" if sign is None else str(sign) for sign in self.stream])

    def do_field(self, name, number):
        """Makes the field."""
        self.field = BitField(number) if name == "bits" else PrimeField(number)
        self.code = None
        self.stream = None
        return "field of " + str(self.field.many)

    def do_code(self, name, behind):
        """Makes the code over the field."""
        if self.field is None:
            raise NotYet("there is no field yet")
        if name == "roots":
            code = RootCode(self.field, behind[0], behind[1], behind[2])
        elif name == "repeat":
            code = RepeatCode(self.field, behind[0])
        else:
            code = CheckCode(self.field, behind)
        self.code = code
        self.stream = None
        length = code.length
        size = code.size
        distance = code.distance()
        return f"length {length} size {size} distance {distance}"

    def do_depth(self, depth):
        """Makes the depth."""
        refuse_depth(depth)
        self.depth = depth
        self.stream = None
        return f"depth {depth}"

    def do_send(self, text):
        """Sends the text; what comes of it becomes the stream."""
        if self.code is None:
            raise NotYet("there is no code yet")
        self.stream = Line(self.code, self.depth).sent(text)
        return "sent " + str(len(self.stream))

    def refuse_place(self, place):
        """Refuses a place that is not in the stream."""
        if place >= len(self.stream):
            raise NoPlace("the stream has no such place")

    def do_spoil(self, place, sign):
        """Puts the sign at the place of the stream."""
        self.refuse_place(place)
        if not self.field.holds(sign):
            raise NoSign(place)
        self.stream[place] = sign
        return "spoilt"

    def do_lose(self, place):
        """Loses the sign at the place of the stream."""
        self.refuse_place(place)
        self.stream[place] = None
        return "lost"

    def do_mend(self):
        """Receives the stream, which becomes that of the near words."""
        line = Line(self.code, self.depth)
        near = line.near_stream(self.stream)
        text = line.text_of(near)
        wrong = len(differences(self.stream, near))
        lost = self.stream.count(None)
        self.stream = near
        return f"wrong {wrong} lost {lost}: {text}"

"""Texts and their bits, and the laying of texts into the elements of a field."""

from mendfield.errors import NoText

# All signs from the blank to ~ in their usual order, but the one numbered 37: a sign's number is its place here.
SIGNS = " !\"#$&'()*+,-./0123456789:;<=>?@ABCDEFGHIJKLMNOPQRSTUVWXYZ[\\]^_`abcdefghijklmnopqrstuvwxyz{|}~"
MOST_SIGNS = 200
LENGTH_FIGURES = 8
SIGN_FIGURES = 7


def figures(number, wide):
    """The number in so many binary figures."""
    return "".join([str((number >> k) & 1) for k in range(wide - 1, -1, -1)])


def groups(bits, size):
    """The bits in groups of so many, one behind the other, each read as a number."""
    return [int(bits[begin:begin + size], 2) for begin in range(0, len(bits), size)]


def bits_of(text):
    """The bits of a text: its length, then the number of each sign."""
    if len(text) > MOST_SIGNS:
        raise NoText("a text has at most 200 signs")
    numbers = [SIGNS.find(sign) for sign in text]
    if -1 in numbers:
        raise NoText("a sign of the text has no number")
    return figures(len(text), LENGTH_FIGURES) + "".join([figures(number, SIGN_FIGURES) for number in numbers])


def text_in(bits):
    """The text that the bits read as."""
    if len(bits) < LENGTH_FIGURES:
        raise NoText("the bits are too short to tell a length")
    length = int(bits[:LENGTH_FIGURES], 2)
    end = LENGTH_FIGURES + SIGN_FIGURES * length
    if length > MOST_SIGNS or len(bits) < end:
        raise NoText("the bits tell a length that they or a text cannot have")
    if "1" in bits[end:]:
        raise NoText("behind the text there is a 1")
    numbers = groups(bits[LENGTH_FIGURES:end], SIGN_FIGURES)
    if any([number >= len(SIGNS) for number in numbers]):
        raise NoText("the bits tell a number that no sign has")
    return "".join([SIGNS[number] for number in numbers])


def laid(field, text):
    """The text in elements: its bits in groups of the field's wide, the last one filled with 0."""
    bits = bits_of(text)
    missing = -len(bits) % field.wide
    return groups(bits + "0" * missing, field.wide)


def unlaid(field, signs):
    """The text that is laid in these elements."""
    most = 1 << field.wide
    if any([sign < 0 or sign >= most for sign in signs]):
        raise NoText("an element stands for more figures than the field is wide")
    return text_in("".join([figures(sign, field.wide) for sign in signs]))

"""Lines: texts are sent as woven words of a code, and received with what was wrong and lost in them."""

from mendfield.codes import refuse_no_sign_but_lost
from mendfield.errors import NoRows, RowsFar
from mendfield.signs import differences
from mendfield.texts import laid, unlaid
from mendfield.weaving import cut_rows, unwoven, woven


def refuse_depth(depth):
    """Refuses a depth that no line has."""
    if depth < 1 or depth > 16:
        raise NoRows("a line has a depth from 1 to 16")


class Line:
    """A line weaves each depth words of its code."""

    def __init__(self, code, depth=1):
        refuse_depth(depth)
        self.code = code
        self.depth = depth

    def stream_of(self, words):
        """The words woven, each depth of them, one behind the other."""
        stream = []
        for begin in range(0, len(words), self.depth):
            stream.extend(woven(words[begin:begin + self.depth]))
        return stream

    def words_in(self, stream):
        """The words that were woven to a stream."""
        group = self.depth * self.code.length
        words = []
        for begin in range(0, len(stream), group):
            words.extend(unwoven(stream[begin:begin + group], self.depth))
        return words

    def sent(self, text):
        """The stream that carries the text."""
        messages = cut_rows(laid(self.code.field, text), self.code.size)
        missing = -len(messages) % self.depth
        messages.extend([[0] * self.code.size for turn in range(missing)])
        return self.stream_of([self.code.written(message) for message in messages])

    def near_stream(self, signs):
        """The stream of the near words of what came."""
        if len(signs) == 0 or len(signs) % (self.depth * self.code.length) != 0:
            raise NoRows("these are not the signs of woven words")
        refuse_no_sign_but_lost(self.code.field, signs)
        near = [self.code.nearest(word) for word in self.words_in(signs)]
        far = [number for number, word in enumerate(near) if word is None]
        if far != []:
            raise RowsFar(far)
        return self.stream_of(near)

    def text_of(self, stream):
        """The text that a stream of words of the code carries."""
        signs = []
        for word in self.words_in(stream):
            signs.extend(self.code.message_in(word))
        return unlaid(self.code.field, signs)

    def received(self, signs):
        """The text, and what was wrong in the stream: tuples (place, was, due), rising."""
        near = self.near_stream(signs)
        return (self.text_of(near), differences(signs, near))

    def room(self):
        """How long a run of wrong signs, and how long a run of lost ones, is always mended."""
        spare = self.code.distance() - 1
        return (self.depth * (spare // 2), self.depth * spare)

"""The refusals. Each one that carries a value makes its own words from it."""


class MendError(ValueError):
    """Any refusal."""


class NoField(MendError):
    """No field is made of this number."""


class ByNought(MendError):
    """Something is divided by 0, or asked of 0 that 0 does not have."""


class NoPoints(MendError):
    """An x stands twice; place is the first one at which it stood ahead."""

    def __init__(self, place):
        MendError.__init__(self, f"the x at place {place} stood ahead")
        self.place = place


class NoCode(MendError):
    """No code is made of these."""


class NoWord(MendError):
    """A message or a word has not the right length."""


class NoSign(MendError):
    """No element stands at place."""

    def __init__(self, place):
        MendError.__init__(self, f"no element stands at place {place}")
        self.place = place


class TooFar(MendError):
    """No word of the code is near; lost is the list of the lost places."""

    def __init__(self, lost):
        # A copy, since the list that is told is the asker's own.
        MendError.__init__(self, "no word of the code is near")
        self.lost = list(lost)


class TooLarge(MendError):
    """The code is too large for what was asked."""


class NoText(MendError):
    """This is no text, or does not read as one."""


class NoRows(MendError):
    """No rows, rows unlike long, or a number of rows that does not fit."""


class RowsFar(MendError):
    """For some words none is near; numbers is the list of their numbers."""

    def __init__(self, numbers):
        # A copy, since the list that is told is the asker's own.
        MendError.__init__(self, "no word of the code is near to some words")
        self.numbers = list(numbers)


class NoOrder(MendError):
    """The desk knows no such order."""


class NotYet(MendError):
    """What the order wants has not been made yet."""


class NoPlace(MendError):
    """The stream has no such place."""

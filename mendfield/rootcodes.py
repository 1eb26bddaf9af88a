"""Codes by roots: the words with all root sums 0."""

from mendfield.codes import Code
from mendfield.errors import NoCode
from mendfield.rootmend import root_nearest
from mendfield.roots import by_roots


def makes_root_code(many, length, extra, first):
    """Whether a code by roots over a field of many elements is made of these."""
    return 2 <= length <= many - 1 and 1 <= extra <= length - 1 and 0 <= first <= many - 2


class RootCode(Code):
    """The code of a length whose words have the value 0 at extra powers of the step, from first on."""

    def __init__(self, field, length, extra, first=1):
        if not makes_root_code(field.many, length, extra, first):
            raise NoCode("no code by roots has such a length, extra and first over this field")
        self.extra = extra
        self.first = first
        checks = [[field.step_power((first + i) * j) for j in range(length)] for i in range(extra)]
        Code.__init__(self, field, checks)

    def maker(self):
        """The polynomial of the roots of all words."""
        return by_roots(self.field, [self.field.step_power(self.first + i) for i in range(self.extra)])

    def distance(self):
        """One more than extra, since any extra columns of the checks are independent."""
        return self.extra + 1

    def nearest(self, word):
        """The near word of one whose signs are elements or lost, None where there is none."""
        return root_nearest(self.field, self.first, self.extra, word)

    def told(self):
        """The code as a text."""
        return " ".join(["roots", str(self.length), str(self.extra), str(self.first)])

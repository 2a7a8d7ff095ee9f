"""Packs read in pieces, as their bytes come."""

from graphpack.errors import NoPack
from graphpack.numbers import BASE, unfolded
from graphpack.webs import KINDS, MOST_NAME_SIGNS, MOST_NAMES, MOST_PARTS, MOST_VALUES, MOST_WORD_SIGNS
from graphpack.webs import NAME_SIGNS, WORD_SIGNS, is_whole, pair_names


def is_byte(thing):
    return is_whole(thing) and 0 <= thing <= 255


def sign_of(byte, signs):
    for sign in signs:
        if ord(sign) == byte:
            return sign
    return None


def most_held(kind):
    if kind == "text":
        return MOST_WORD_SIGNS
    return MOST_VALUES


def wanted_items(kind, size):
    if kind == "text":
        return ["sign"] * size
    if kind == "row":
        return ["value"] * size
    if kind == "table":
        return ["name", "value"] * size
    return ["class"] + ["name", "value"] * size


def made_part(kind, held):
    if kind == "text":
        return ("text", "".join(held))
    if kind == "row":
        return ("row", tuple(held))
    if kind == "table":
        return ("table", made_pairs(held))
    return ("record", held[0], made_pairs(held[1:]))


def made_pairs(held):
    return tuple(zip(held[0::2], held[1::2]))


def is_left(names, length, beginning):
    # Whether a name of so many signs that begins so is still to be told for the first time.
    most = 1
    for place in range(length - len(beginning)):
        most = most * len(NAME_SIGNS)
    return len([name for name in names if len(name) == length and name.startswith(beginning)]) < most


class Reader:
    # Each byte that is taken can be gone on from to the end of some pack: what is wanted next can always be had, since
    # None is always there as a value, and 60 names are more than the 12 that a part has. So whether a byte goes on so
    # is seen by the number or the sign alone that it belongs to.

    def __init__(self):
        self.count = 0
        # A part is the tuple of its kind and the list of what it holds so far: signs, class, names and values.
        self.begun = []
        self.unended = []
        self.names = []
        # What is still to come, the next one last; behind all that a part holds stands its end.
        self.waiting = ["root"]
        # The digits so far of a head number; a number that has begun is never 0, since its first digit is not.
        self.digits = 0
        # How many signs the new name has that is being told, 0 where none is; and those that have come.
        self.length = 0
        self.spelled = ""

    def give(self, some):
        for thing in some:
            if not is_byte(thing) or not self.takes(thing):
                raise NoPack(self.count)
            self.count += 1
            self.end_parts()

    def whole(self):
        return len(self.waiting) == 0

    def open_parts(self):
        return len(self.unended)

    def taken(self):
        return self.count

    def web(self):
        if not self.whole():
            raise NoPack(self.count)
        return tuple([made_part(part[0], part[1]) for part in self.begun])

    def takes(self, byte):
        # Here and below: a byte that isn't taken leaves all as it was.
        if self.whole():
            return False
        want = self.waiting[-1]
        if want == "root" or want == "value":
            return self.takes_digit(byte)
        if want == "sign":
            return self.takes_sign(byte)
        if self.length > 0:
            return self.takes_letter(byte)
        return self.takes_name_number(byte)

    def takes_digit(self, byte):
        number = self.digits * BASE + byte % BASE
        if byte < BASE:
            return self.takes_head(number)
        if number == 0 or not self.goes_on(number):
            return False
        self.digits = number
        return True

    def goes_on(self, digits):
        # A value may be a whole number, however long; the root's greatest head number is that of the longest text.
        return self.waiting[-1] == "value" or digits * BASE <= 4 * (4 * MOST_WORD_SIGNS) + 3

    def takes_head(self, number):
        rest = number // 4
        if number % 4 == 3:
            return self.takes_part(KINDS[rest % 4], rest // 4)
        if self.waiting[-1] == "root":
            return False
        if number % 4 == 1:
            self.hold(unfolded(rest))
        elif number % 4 == 2 and rest < len(self.begun):
            self.hold(("at", len(self.begun) - 1 - rest))
        elif number == 0:
            self.hold(None)
        else:
            return False
        return True

    def takes_part(self, kind, size):
        if size > most_held(kind) or len(self.begun) == MOST_PARTS:
            return False
        self.hold(("at", len(self.begun)))
        part = (kind, [])
        self.begun.append(part)
        self.unended.append(part)
        self.waiting.append("end")
        self.waiting.extend(list(reversed(wanted_items(kind, size))))
        return True

    def hold(self, item):
        # Nothing holds the root.
        if len(self.unended) > 0:
            self.unended[-1][1].append(item)
        self.waiting.pop()
        self.digits = 0

    def end_parts(self):
        while len(self.waiting) > 0 and self.waiting[-1] == "end":
            self.waiting.pop()
            self.unended.pop()

    def takes_sign(self, byte):
        sign = sign_of(byte, WORD_SIGNS)
        if sign is None:
            return False
        self.hold(sign)
        return True

    def takes_name_number(self, byte):
        # No name's number has two bytes: bytes from 128 on tell of more names behind, or more signs, than there can be.
        if byte % 2 == 0:
            return self.takes_known_name(byte // 2)
        length = byte // 2
        if length == 0 or length > MOST_NAME_SIGNS or len(self.names) == MOST_NAMES:
            return False
        if not is_left(self.names, length, ""):
            return False
        self.length = length
        return True

    def takes_known_name(self, behind):
        if behind >= len(self.names):
            return False
        name = self.names[len(self.names) - 1 - behind]
        if self.waiting[-1] == "name" and name in self.names_here():
            return False
        self.hold(name)
        return True

    def names_here(self):
        part = self.unended[-1]
        return pair_names(made_part(part[0], part[1]))

    def takes_letter(self, byte):
        sign = sign_of(byte, NAME_SIGNS)
        if sign is None or not is_left(self.names, self.length, self.spelled + sign):
            return False
        self.spelled = self.spelled + sign
        if len(self.spelled) == self.length:
            self.names.append(self.spelled)
            self.hold(self.spelled)
            self.length = 0
            self.spelled = ""
        return True

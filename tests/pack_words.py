"""Packs written and read slowly, straight from the document's words, to hold the program's answers against."""

import functools

from graphpack.errors import NoPack
from graphpack.packs import unpacked

KINDS = ("text", "row", "table", "record")
LETTERS = "0123456789abcdefghijklmnopqrstuvwxyz"


def digits_of(number):
    count = max(1, (number.bit_length() + 6) // 7)
    return [(number >> 7 * place) % 128 + (128 if place else 0) for place in reversed(range(count))]


@functools.lru_cache(maxsize=None)
def beginnings(numbers):
    """All rows with which the bytes of one of these numbers begin."""
    rows = [digits_of(number) for number in numbers]
    return {tuple(row[:count + 1]) for row in rows for count in range(len(row))}


@functools.lru_cache(maxsize=None)
def heads_and_links(begun, root):
    """The head numbers but those of whole numbers that may stand where so many parts have been begun."""
    heads = [4 * (4 * n + c) + 3 for c in range(4) for n in range(21 if c == 0 else 13)] if begun < 60 else []
    return tuple(heads if root else heads + [4 * d + 2 for d in range(begun)] + [0])


def fold(number):
    return 2 * number if number >= 0 else -2 * number - 1


class Writer:
    """Writes a pack, and beside each byte how many parts are open behind it."""

    def __init__(self, web):
        self.web = web
        self.begun = []
        self.names = []
        self.out = []
        self.depths = []
        self.depth = 0
        self.value(("at", 0))

    def put(self, some):
        self.out.extend(some)
        self.depths.extend([self.depth] * len(some))

    def value(self, value):
        if value is None:
            self.put([0])
        elif not isinstance(value, tuple):
            self.put(digits_of(4 * fold(value) + 1))
        elif value[1] in self.begun:
            self.put(digits_of(4 * (len(self.begun) - 1 - self.begun.index(value[1])) + 2))
        else:
            self.part(value[1])

    def part(self, k):
        part = self.web[k]
        self.put(digits_of(4 * (4 * len(part[-1]) + KINDS.index(part[0])) + 3))
        self.depth += 1
        self.depths[-1] += 1
        self.begun.append(k)
        if part[0] == "text":
            self.put([ord(sign) for sign in part[1]])
        if part[0] == "row":
            for value in part[1]:
                self.value(value)
        if part[0] == "record":
            self.name(part[1])
        if part[0] in ("table", "record"):
            for name, value in part[-1]:
                self.name(name)
                self.value(value)
        self.depth -= 1
        self.depths[-1] -= 1

    def name(self, name):
        if name in self.names:
            self.put([2 * (len(self.names) - 1 - self.names.index(name))])
        else:
            self.put([2 * len(name) + 1] + [ord(sign) for sign in name])
            self.names.append(name)


def pack_by_the_words(web):
    return Writer(web).out


class Ended(Exception):
    """The bytes went on too far, or not far enough, at this number."""


class Parser:
    """Reads a pack, and takes a byte only where some number or sign that may stand there goes on so."""

    def __init__(self, things):
        self.things = things
        self.at = 0
        self.names = []
        self.parts = []
        self.value(root=True)
        if self.at < len(things):
            raise Ended(self.at)

    def byte(self, allowed):
        if self.at == len(self.things):
            raise Ended(self.at)
        thing = self.things[self.at]
        if type(thing) is not int or not 0 <= thing <= 255 or not allowed(thing):
            raise Ended(self.at)
        self.at += 1
        return thing

    def number(self, numbers, whole):
        """One of these numbers, or, where a whole number may stand, any 4f + 1."""
        came = ()

        def fits(thing):
            row = came + (thing,)
            return (whole and row[0] != 128 and (thing >= 128 or thing % 4 == 1)) or row in beginnings(numbers)

        while not came or came[-1] >= 128:
            came += (self.byte(fits),)
        told = 0
        for thing in came:
            told = told * 128 + thing % 128
        return told

    def sign(self, signs, allowed=lambda sign: True):
        return chr(self.byte(lambda thing: thing < 128 and chr(thing) in signs and allowed(chr(thing))))

    def value(self, root=False):
        told = self.number(heads_and_links(len(self.parts), root), not root)
        if told == 0:
            return None
        if told % 4 == 1:
            return told // 8 if told // 4 % 2 == 0 else -(told // 4 + 1) // 2
        if told % 4 == 2:
            return ("at", len(self.parts) - 1 - told // 4)
        return self.part(told // 16, KINDS[told // 4 % 4])

    def part(self, n, kind):
        k = len(self.parts)
        self.parts.append(None)
        if kind == "text":
            self.parts[k] = (kind, "".join([self.sign(LETTERS + " ") for _ in range(n)]))
        if kind == "row":
            self.parts[k] = (kind, tuple([self.value() for _ in range(n)]))
        if kind == "table":
            self.parts[k] = (kind, self.pairs(n))
        if kind == "record":
            self.parts[k] = (kind, self.name([]), self.pairs(n))
        return ("at", k)

    def pairs(self, n):
        out = []
        for _ in range(n):
            name = self.name([pair[0] for pair in out])
            out.append((name, self.value()))
        return tuple(out)

    def name(self, here):
        behind = self.names[::-1]
        numbers = [2 * e for e in range(len(behind)) if behind[e] not in here]
        if len(self.names) < 60:
            numbers += [2 * m + 1 for m in range(1, 9) if self.goes_on("", m)]
        told = self.number(tuple(numbers), False)
        if told % 2 == 0:
            return behind[told // 2]
        name = ""
        for _ in range(told // 2):
            name += self.sign(LETTERS, lambda sign: self.goes_on(name + sign, told // 2))
        self.names.append(name)
        return name

    def goes_on(self, beginning, m):
        if len(beginning) == m:
            return beginning not in self.names
        # Sixty names can't be all that begin so where two signs or more are still to come.
        return m - len(beginning) > 1 or any(beginning + sign not in self.names for sign in LETTERS)


def outcome_by_the_words(things):
    """The web whose pack it is, or the number at which it is refused."""
    try:
        return tuple(Parser(things).parts)
    except Ended as ended:
        return ended.args[0]


def outcome(things):
    try:
        return unpacked(things)
    except NoPack as refusal:
        return refusal.at

"""Webs and things that several tests ask about, and a web maker that gives the same webs each time."""

from graphpack.webs import values, with_values

EVERY_KIND = (
    ("record", "dog", (("a", -7), ("b", ("at", 1)), ("c9", None))),
    ("row", (1, ("at", 2), None, ("at", 3))),
    ("text", "ab c"),
    ("table", (("a", 1), ("b", ("at", 0)))),
    ("row", ()),
    ("table", ()),
    ("record", "7", ()),
    ("text", ""),
)


def chain(count):
    """Each part but the last holds the next one."""
    linked = [("row", (k, ("at", k + 1))) for k in range(count - 1)]
    return tuple(linked) + (("text", "end"),)


def ring(count):
    """Each part holds the next one, the last one the first."""
    return tuple([("row", (("at", (k + 1) % count),)) for k in range(count)])


class Hostile:
    """Answers no question that is put to it."""

    __hash__ = None

    def __eq__(self, other):
        raise RuntimeError("not to be compared")

    def __len__(self):
        raise RuntimeError("not to be measured")

    def __iter__(self):
        raise RuntimeError("not to be walked")

    def __bool__(self):
        raise RuntimeError("neither true nor false")


class Maker:
    """A row of numbers that looks like chance and is the same each time."""

    def __init__(self, seed):
        self.state = seed * 2654435761 + 12345

    def below(self, bound):
        self.state = (self.state * 6364136223846793005 + 1442695040888963407) % (1 << 64)
        return (self.state >> 33) % bound

    def chosen(self, things):
        return things[self.below(len(things))]

    def value(self, count):
        sort = self.below(6)
        if sort == 0:
            return None
        if sort == 1:
            return self.below(10 ** self.below(9) + 1) * (1 - 2 * self.below(2))
        return ("at", self.below(count))

    def pairs(self, count):
        names = []
        for _ in range(self.below(5)):
            name = self.chosen(("a", "b", "cd", "e0", "99", "abcdefgh"))
            if name not in names:
                names.append(name)
        return tuple([(name, self.value(count)) for name in names])

    def part(self, count):
        sort = self.below(5)
        if sort == 0:
            return ("text", self.chosen(("", "a", " ", "b 7", "ab c")))
        if sort == 1:
            return ("table", self.pairs(count))
        if sort == 2:
            return ("record", self.chosen(("dog", "cat", "a", "0")), self.pairs(count))
        return ("row", tuple([self.value(count) for _ in range(self.below(5))]))

    def web(self):
        count = 1 + self.below(9)
        return tuple([self.part(count) for _ in range(count)])

    def plain_value(self, count):
        return self.chosen((None, 5) + tuple([("at", k) for k in range(count)]) * 3)

    def plain_part(self, count):
        sort = self.below(8)
        if sort == 0:
            return ("text", "a")
        some = (self.plain_value(count), self.plain_value(count))
        if sort == 1:
            return ("table", (("a", some[0]),))
        return ("row", some[:1] if sort == 2 else some)

    def plain_web(self, most):
        count = 1 + self.below(most)
        # A root with two links, mostly to other parts, so that much of the web is met.
        root = ("row", (("at", self.below(count)), ("at", count - 1)))
        return (root,) + tuple([self.plain_part(count) for _ in range(count - 1)])

    def changed(self, web):
        """The web with one value of one part taken for another one, perhaps the same."""
        k = self.below(len(web))
        some = values(web[k])
        if some:
            some[self.below(len(some))] = self.plain_value(len(web))
        return web[:k] + (with_values(web[k], some),) + web[k + 1:]

    def shuffled(self, things):
        left = list(things)
        return [left.pop(self.below(len(left))) for _ in things]


def made_webs(count):
    return [Maker(seed).web() for seed in range(count)]


def plain_webs(count, most):
    """Webs of up to so many parts that are few and alike enough for all their ways to be gone."""
    return [Maker(seed).plain_web(most) for seed in range(count)]


def led(part, numbers):
    """The part with its links led to other numbers."""
    return with_values(part, [("at", numbers[value[1]]) if isinstance(value, tuple) else value
                              for value in values(part)])


def renumbered(web, numbers):
    """The web whose part numbers[k] is part k of the old one."""
    out = [None] * len(web)
    for k, part in enumerate(web):
        out[numbers[k]] = led(part, numbers)
    return tuple(out)


def beside(one, other):
    """Both webs as one, the other one behind."""
    return one + tuple([led(part, range(len(one), len(one) + len(other))) for part in other])


def laid_out(maker, web, times):
    """The web so many times, each link led to what it led to in whichever laying: its root looks as before."""
    parts = []
    for _ in range(times):
        for part in web:
            parts.append(led(part, [k + len(web) * maker.below(times) for k in range(len(web))]))
    return tuple(parts)


def ways_from(web, k, longest):
    """All ways of up to so many places that lead from a part, rising, each with the value that it leads to."""
    level = [([], ("at", k))]
    found = list(level)
    for _ in range(longest):
        level = [(way + [place], value) for way, link in level if isinstance(link, tuple)
                 for place, value in enumerate(values(web[link[1]]))]
        found.extend(level)
    return found


def names_web(count):
    """A web with just so many unlike names, the class `dog` and names of pairs."""
    names = ["n" + str(number) for number in range(count - 1)]
    parts = []
    for start in range(0, len(names), 12):
        parts.append(("record", "dog", tuple([(name, None) for name in names[start:start + 12]])))
    return tuple(parts)


def classes_web(count):
    """A web with just so many unlike names, each of them a class's, and one a pair's too."""
    return tuple([("record", "c" + str(number), (("c0", number),)) for number in range(count)])

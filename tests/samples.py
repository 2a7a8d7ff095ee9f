"""Webs that several tests ask about, and a web maker that gives the same webs each time."""

EVERY_KIND = (
    ("record", "dog", (("a", -7), ("b", ("at", 1)), ("c9", None))),
    ("row", (1, ("at", 2), None, ("at", 3))),
    ("text", "ab c"),
    ("table", (("a", 1), ("b", ("at", 0)))),
    ("row", ()),
    ("table", ()),
    ("record", "7", ()),
    ("text", ""),
)


def chain(count):
    """Each part but the last holds the next one."""
    linked = [("row", (k, ("at", k + 1))) for k in range(count - 1)]
    return tuple(linked) + (("text", "end"),)


def ring(count):
    """Each part holds the next one, the last one the first."""
    return tuple([("row", (("at", (k + 1) % count),)) for k in range(count)])


class Maker:
    """A row of numbers that looks like chance and is the same each time."""

    def __init__(self, seed):
        self.state = seed * 2654435761 + 12345

    def below(self, bound):
        self.state = (self.state * 6364136223846793005 + 1442695040888963407) % (1 << 64)
        return (self.state >> 33) % bound

    def chosen(self, things):
        return things[self.below(len(things))]

    def value(self, count):
        sort = self.below(6)
        if sort == 0:
            return None
        if sort == 1:
            return self.below(10 ** self.below(9) + 1) * (1 - 2 * self.below(2))
        return ("at", self.below(count))

    def pairs(self, count):
        names = []
        for _ in range(self.below(5)):
            name = self.chosen(("a", "b", "cd", "e0", "99", "abcdefgh"))
            if name not in names:
                names.append(name)
        return tuple([(name, self.value(count)) for name in names])

    def part(self, count):
        sort = self.below(5)
        if sort == 0:
            return ("text", self.chosen(("", "a", " ", "b 7", "ab c")))
        if sort == 1:
            return ("table", self.pairs(count))
        if sort == 2:
            return ("record", self.chosen(("dog", "cat", "a", "0")), self.pairs(count))
        return ("row", tuple([self.value(count) for _ in range(self.below(5))]))

    def web(self):
        count = 1 + self.below(9)
        return tuple([self.part(count) for _ in range(count)])


def made_webs(count):
    return [Maker(seed).web() for seed in range(count)]


def names_web(count):
    """A web with just so many unlike names, the class `dog` and names of pairs."""
    names = ["n" + str(number) for number in range(count - 1)]
    parts = []
    for start in range(0, len(names), 12):
        parts.append(("record", "dog", tuple([(name, None) for name in names[start:start + 12]])))
    return tuple(parts)


def classes_web(count):
    """A web with just so many unlike names, each of them a class's, and one a pair's too."""
    return tuple([("record", "c" + str(number), (("c0", number),)) for number in range(count)])

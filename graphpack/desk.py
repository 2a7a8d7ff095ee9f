"""A desk that keeps webs by names, and is told rows of words."""

from graphpack.copies import copied, put
from graphpack.errors import NoName, NoPlace, NoRow, NoText
from graphpack.looks import least, parting_way
from graphpack.packs import pack, unpacked
from graphpack.same import parted
from graphpack.slips import laid, slip
from graphpack.texts import is_count_text, read, read_value, shown, shown_value
from graphpack.ways import value_at
from graphpack.webs import drawn, is_name

HEX_SIGNS = "0123456789abcdef"

# What follows each first word. A "new" is any name, for a web that is to stand by it; an "old" is a name by which one
# stands, where the name itself is needed, and a "web" such a name, where the web is.
FORMS = {
    "web": ("new", "text"),
    "draw": ("new", "web", "number"),
    "least": ("new", "web"),
    "put": ("new", "web", "number", "number", "value"),
    "unpack": ("new", "hex"),
    "change": ("new", "web", "web", "web"),
    "drop": ("old",),
    "copy": ("new", "web", "number"),
    "show": ("web",),
    "pack": ("web",),
    "at": ("web", "way"),
    "same": ("web", "web"),
    "looks": ("web", "number", "number"),
}


def row_words(row):
    if not isinstance(row, str):
        raise NoRow("what is no text is no row")
    # The text of a web holds blanks of its own.
    if row.startswith("web "):
        return row.split(" ", 2)
    return row.split(" ")


def row_form(words):
    if words[0] not in FORMS:
        raise NoRow("no row begins with that word")
    form = FORMS[words[0]]
    kept = len(words) - 1 - len(form)
    if kept < 0 or (kept > 0 and words[0] != "copy"):
        raise NoRow("the row has too few words, or too many")
    return form + ("number",) * kept


def read_number(word):
    if not is_count_text(word):
        raise NoRow("a number is not written as numbers are")
    return int(word)


def read_way(word):
    if word == "-":
        return []
    return [read_number(place) for place in word.split(".")]


def shown_way(way):
    if len(way) == 0:
        return "-"
    return ".".join([str(place) for place in way])


def read_hex(word):
    if len(word) % 2 != 0 or not all([sign in HEX_SIGNS for sign in word]):
        raise NoText("bytes are not written as they are to be")
    digits = [HEX_SIGNS.index(sign) for sign in word]
    return [16 * both[0] + both[1] for both in zip(digits[0::2], digits[1::2])]


def shown_hex(some):
    return "".join([HEX_SIGNS[byte // 16] + HEX_SIGNS[byte % 16] for byte in some])


def read_thing(kind, word):
    if kind == "text":
        return read(word)
    if kind == "value":
        return read_value(word)
    if kind == "hex":
        return read_hex(word)
    if kind == "way":
        return read_way(word)
    return read_number(word)


def ask_parts(web, numbers):
    for k in numbers:
        if k >= len(web):
            raise NoPlace("the web has no such part")


def made_web(word, things):
    if word == "draw":
        ask_parts(things[0], things[1:])
        return drawn(things[0], things[1])
    if word == "least":
        return least(things[0])
    if word == "put":
        return put(things[0], things[1], things[2], things[3])
    if word == "unpack":
        return unpacked(things[0])
    if word == "change":
        return laid(things[2], slip(things[0], things[1]))
    return things[0]


def answer(word, things):
    if word == "show":
        return shown(things[0])
    if word == "pack":
        return shown_hex(pack(things[0]))
    if word == "at":
        return shown_value(value_at(things[0], things[1]))
    if word == "same":
        return shown_parting(parted(things[0], things[1]))
    ask_parts(things[0], things[1:])
    way = parting_way(things[0], things[1], things[2])
    return "yes" if way is None else shown_way(way)


def shown_parting(told):
    if told is None:
        return "yes"
    return " ".join([told[0]] + [shown_way(way) for way in told[1:]])


class Desk:
    def __init__(self):
        self.webs = {}

    def say(self, row):
        words = row_words(row)
        form = row_form(words)
        # From the left, so that the first fault is the one that is told.
        things = [self.thing(kind, word) for kind, word in zip(form, words[1:])]
        if words[0] == "drop":
            self.webs.pop(things[0])
            return "ok"
        if words[0] == "copy":
            return self.keep_copy(things)
        if form[0] == "new":
            self.webs[things[0]] = made_web(words[0], things[1:])
            return "ok"
        return answer(words[0], things)

    def thing(self, kind, word):
        if kind == "new" or kind == "old" or kind == "web":
            return self.named(kind, word)
        return read_thing(kind, word)

    def named(self, kind, word):
        if not is_name(word):
            raise NoName("that is no name")
        if kind == "new":
            return word
        if word not in self.webs:
            raise NoName("no web stands by that name")
        return word if kind == "old" else self.webs[word]

    def keep_copy(self, things):
        ask_parts(things[1], things[2:])
        told = copied(things[1], things[2], things[3:])
        self.webs[things[0]] = told[0]
        return str(told[1])

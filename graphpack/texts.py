"""Webs shown as texts, and read back from them."""

from graphpack.errors import NoText
from graphpack.webs import is_web

FIGURES = "0123456789"
MOST_FIGURES = 60


def shown(web):
    return "; ".join([shown_part(part) for part in web])


def shown_part(part):
    if part[0] == "text":
        return "'" + part[1] + "'"
    if part[0] == "row":
        return "[" + ", ".join([shown_value(value) for value in part[1]]) + "]"
    if part[0] == "table":
        return shown_pairs(part[1])
    return part[1] + shown_pairs(part[2])


def shown_pairs(pairs):
    return "{" + ", ".join([pair[0] + "=" + shown_value(pair[1]) for pair in pairs]) + "}"


def shown_value(value):
    if value is None:
        return "nil"
    if isinstance(value, tuple):
        return "@" + str(value[1])
    return str(value)


def read(text):
    if not isinstance(text, str):
        raise NoText("what is no text shows no web")
    # Within a part no semicolon can stand, so that each "; " is the end of one.
    web = tuple([read_part(piece) for piece in text.split("; ")])
    # The form alone has been read: this looks at the names, the words, the links and all the bounds.
    if not is_web(web):
        raise NoText("the text has the form of a web, but shows none")
    return web


def read_part(piece):
    # One quote by itself both begins and ends its piece.
    if len(piece) > 1 and piece.startswith("'") and piece.endswith("'"):
        return ("text", piece[1:-1])
    if piece.startswith("[") and piece.endswith("]"):
        return ("row", tuple([read_value(item) for item in parted_items(piece[1:-1])]))
    if "{" in piece and piece.endswith("}"):
        return read_paired(piece)
    raise NoText("a piece of the text shows no part")


def read_paired(piece):
    halves = piece.partition("{")
    pairs = tuple([read_pair(item) for item in parted_items(halves[2][:-1])])
    if halves[0] == "":
        return ("table", pairs)
    return ("record", halves[0], pairs)


def parted_items(inner):
    # Split, a text without signs would be one item, not none.
    if inner == "":
        return []
    return inner.split(", ")


def read_pair(item):
    halves = item.partition("=")
    return (halves[0], read_value(halves[2]))


def read_value(text):
    if text == "nil":
        return None
    if text.startswith("@"):
        return ("at", read_count(text[1:]))
    if text == "-0":
        raise NoText("nought is shown without a sign")
    if text.startswith("-"):
        return -read_count(text[1:])
    return read_count(text)


def read_count(text):
    if not is_count_text(text):
        raise NoText("a number is not written as numbers are shown")
    return int(text)


def is_count_text(text):
    # Python's own isdigit and int take figures of other scripts too.
    if len(text) == 0 or len(text) > MOST_FIGURES or not all([sign in FIGURES for sign in text]):
        return False
    return text == "0" or not text.startswith("0")

"""Webs packed into bytes, and unpacked."""

from graphpack.numbers import folded, number_bytes
from graphpack.reader import Reader
from graphpack.webs import KINDS


def pack(web):
    out = []
    # Both tell of what stood before its number in the order in which it came.
    begun = {}
    told = {}
    # Names wait here as texts, values as they are; the next one is the last.
    waiting = [("at", 0)]
    while len(waiting) > 0:
        item = waiting.pop()
        out.extend(item_bytes(web, item, begun, told))
        if isinstance(item, str):
            told.setdefault(item, len(told))
        elif is_new(item, begun):
            begun[item[1]] = len(begun)
            waiting.extend(list(reversed(held_items(web[item[1]]))))
    return out


def is_new(value, begun):
    return isinstance(value, tuple) and value[1] not in begun


def item_bytes(web, item, begun, told):
    if isinstance(item, str):
        return name_bytes(item, told)
    if is_new(item, begun):
        part = web[item[1]]
        return number_bytes(4 * part_number(part) + 3) + text_bytes(part)
    return number_bytes(known_head(item, begun))


def name_bytes(name, told):
    if name in told:
        return number_bytes(2 * (len(told) - 1 - told[name]))
    return number_bytes(2 * len(name) + 1) + sign_bytes(name)


def sign_bytes(signs):
    return [ord(sign) for sign in signs]


def part_number(part):
    # In a part of whatever kind it is the last thing that has n signs, values or pairs.
    return 4 * len(part[-1]) + KINDS.index(part[0])


def text_bytes(part):
    if part[0] == "text":
        return sign_bytes(part[1])
    return []


def known_head(value, begun):
    if value is None:
        return 0
    if isinstance(value, tuple):
        return 4 * (len(begun) - 1 - begun[value[1]]) + 2
    return 4 * folded(value) + 1


def held_items(part):
    if part[0] == "text":
        return []
    if part[0] == "row":
        return list(part[1])
    items = []
    if part[0] == "record":
        items.append(part[1])
    for pair in part[-1]:
        items.extend(list(pair))
    return items


def unpacked(some):
    reader = Reader()
    reader.give(some)
    return reader.web()

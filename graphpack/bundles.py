"""Bundles: webs in bytes of which a wanted part is read alone."""

from graphpack.errors import NoPlace
from graphpack.numbers import BASE, folded, number_bytes, unfolded
from graphpack.packs import held_items, part_number, sign_bytes, text_bytes
from graphpack.reader import made_part, sign_of, wanted_items
from graphpack.webs import KINDS, NAME_SIGNS, WORD_SIGNS, drawn, links


def bundle(web):
    bodies = [part_bytes(part) for part in web]
    out = number_bytes(len(bodies))
    for body in bodies:
        out.extend(number_bytes(len(body)))
    for body in bodies:
        out.extend(body)
    return out


def part_bytes(part):
    out = number_bytes(part_number(part)) + text_bytes(part)
    for item in held_items(part):
        out.extend(held_bytes(item))
    return out


def held_bytes(item):
    # Unlike in a pack, names are spelled each time: a part that is read alone knows of no other.
    if isinstance(item, str):
        return number_bytes(len(item)) + sign_bytes(item)
    return number_bytes(value_number(item))


def value_number(value):
    if value is None:
        return 0
    if isinstance(value, tuple):
        return 2 * value[1] + 2
    return 2 * folded(value) + 1


def numbered_value(number):
    if number == 0:
        return None
    if number % 2 == 0:
        return ("at", number // 2 - 1)
    return unfolded(number // 2)


def count_of(look):
    return number_at(look, 0)[0]


def part_of(look, k):
    return part_at(look, part_starts(look, k)[k])


def wanted(look, k):
    starts = part_starts(look, k)
    parts = {}
    waiting = [k]
    while len(waiting) > 0:
        number = waiting.pop()
        if number not in parts:
            parts[number] = part_at(look, starts[number])
            waiting.extend(links(parts[number]))
    # To draw a web takes the parts that are met alone, each by its number: so those that were read are enough.
    return drawn(parts, k)


def number_at(look, place):
    # Told beside what is read, here and below, is the place behind it.
    number = 0
    byte = look(place)
    while byte >= BASE:
        number = number * BASE + byte - BASE
        place += 1
        byte = look(place)
    return (number * BASE + byte, place + 1)


def part_starts(look, k):
    count = number_at(look, 0)
    # Python would count a number below 0 from the end.
    if k < 0 or k >= count[0]:
        raise NoPlace("the bundle has no such part")
    place = count[1]
    sizes = []
    while len(sizes) < count[0]:
        size = number_at(look, place)
        sizes.append(size[0])
        place = size[1]
    # Behind the last size the first part begins.
    starts = []
    for size in sizes:
        starts.append(place)
        place += size
    return starts


def part_at(look, start):
    number = number_at(look, start)
    kind = KINDS[number[0] % 4]
    place = number[1]
    held = []
    for want in wanted_items(kind, number[0] // 4):
        item = item_at(look, place, want)
        held.append(item[0])
        place = item[1]
    return made_part(kind, held)


def item_at(look, place, want):
    if want == "sign":
        return (sign_of(look(place), WORD_SIGNS), place + 1)
    number = number_at(look, place)
    if want == "value":
        return (numbered_value(number[0]), number[1])
    return (name_at(look, number[1], number[0]), number[1] + number[0])


def name_at(look, start, length):
    return "".join([sign_of(look(place), NAME_SIGNS) for place in range(start, start + length)])

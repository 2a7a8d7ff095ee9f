"""Slips: what has become of an old web, told without the parts that stayed."""

from graphpack.errors import NoBase
from graphpack.looks import are_links, is_upheld, linked_pair
from graphpack.packs import pack
from graphpack.webs import drawn, relinked, values

MARK_BASE = 65521


def stay(old, new):
    one = drawn(old)
    other = drawn(new)
    pairs = walked_pairs(one, other)
    rest = upheld_pairs(one, other, pairs)
    # A pair that was left out may have upheld others.
    while len(rest) < len(pairs):
        pairs = rest
        rest = upheld_pairs(one, other, pairs)
    return sorted(rest)


def walked_pairs(one, other):
    pairs = [(0, 0)]
    mine = {0: True}
    yours = {0: True}
    number = 0
    while number < len(pairs):
        pair = pairs[number]
        number += 1
        # Heads may be unlike here: one goes on as far as both have places.
        for both in zip(values(one[pair[0]]), values(other[pair[1]])):
            if are_links(both) and both[0][1] not in mine and both[1][1] not in yours:
                mine[both[0][1]] = True
                yours[both[1][1]] = True
                pairs.append(linked_pair(both))
    return pairs


def upheld_pairs(one, other, pairs):
    listed = dict([(pair, True) for pair in pairs])
    return [pair for pair in pairs if is_upheld(one, other, pair, listed)]


def mark(web):
    return sum([number * byte for number, byte in enumerate(pack(web), start=1)]) % MARK_BASE


def slip(old, new):
    stayed = dict([(pair[1], pair[0]) for pair in stay(old, new)])
    rows = [("old", stayed[k]) if k in stayed else part for k, part in enumerate(drawn(new))]
    return (mark(old), tuple(rows))


def laid(web, slip):
    if slip[0] != mark(web):
        raise NoBase("the slip is not one of this web")
    numbers = {}
    for number, row in enumerate(slip[1]):
        if row[0] == "old":
            numbers[row[1]] = number
    base = drawn(web)
    # Whatever an old part that stayed links to has stayed too, so that each of its links has its new number.
    return tuple([relinked(base[row[1]], numbers) if row[0] == "old" else row for row in slip[1]])

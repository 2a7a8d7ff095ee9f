"""Whether two webs are the same, and where they part."""

from graphpack.looks import are_closed, paired_walk, way_to
from graphpack.webs import drawn, met


def same(one, other):
    return drawn(one) == drawn(other)


def pairing(one, other):
    if not same(one, other):
        return None
    return sorted(zip(met(one), met(other)))


def is_pairing(one, other, pairs):
    if (0, 0) not in pairs or not stand_once(pairs):
        return False
    return are_closed(one, other, pairs)


def stand_once(pairs):
    mine = [pair[0] for pair in pairs]
    yours = [pair[1] for pair in pairs]
    return len(set(mine)) == len(pairs) and len(set(yours)) == len(pairs)


def parted(one, other):
    walk = paired_walk(one, other, (0, 0))
    crossing = first_crossing(list(walk[0]))
    # Each pair was come to ahead of the way that ended the walk, so what crosses parts the webs first.
    if crossing is not None:
        return ("shared", way_to(walk[0], crossing[0]), way_to(walk[0], crossing[1]))
    if walk[1] is not None:
        return ("value", walk[1])
    return None


def first_crossing(order):
    for number, pair in enumerate(order):
        # The pairs come by rising ways, so the first that shares a part with this one has the least way to it.
        for ahead in order[:number]:
            if ahead[0] == pair[0] or ahead[1] == pair[1]:
                return (ahead, pair)
    return None

"""Parts that look alike, the way at which others part, and webs made least."""

from graphpack.webs import drawn, head, met, relinked, values


def look_table(web, p, q):
    walk = paired_walk(web, web, (p, q))
    if walk[1] is not None:
        return None
    return sorted(walk[0])


def parting_way(web, p, q):
    return paired_walk(web, web, (p, q))[1]


def paired_walk(one, other, start):
    # The same ways are gone from both parts, the lesser ones first, so that the first at which they part is the least.
    # Told beside it are the pairs come to, in that order, each with the last step of its least way: the ways
    # themselves could grow to many hundreds of places each.
    came = {start: None}
    if head(one[start[0]]) != head(other[start[1]]):
        return (came, [])
    waiting = [start]
    number = 0
    while number < len(waiting):
        pair = waiting[number]
        number += 1
        for place, both in enumerate(zip(values(one[pair[0]]), values(other[pair[1]]))):
            if are_parting(one, other, both):
                return (came, way_to(came, pair) + [place])
            # A pair that was come to already has a lesser way, and so has all that is behind it.
            if are_links(both) and linked_pair(both) not in came:
                came[linked_pair(both)] = (pair, place)
                waiting.append(linked_pair(both))
    return (came, None)


def way_to(came, pair):
    backward = []
    step = came[pair]
    while step is not None:
        backward.append(step[1])
        step = came[step[0]]
    return list(reversed(backward))


def are_links(both):
    return isinstance(both[0], tuple) and isinstance(both[1], tuple)


def linked_pair(both):
    return (both[0][1], both[1][1])


def are_parting(one, other, both):
    if are_links(both):
        pair = linked_pair(both)
        return head(one[pair[0]]) != head(other[pair[1]])
    return both[0] != both[1]


def is_closed(web, pairs):
    return are_closed(web, web, pairs)


def are_closed(one, other, pairs):
    listed = dict([(pair, True) for pair in pairs])
    return all([are_parts(one, other, pair) and is_upheld(one, other, pair, listed) for pair in pairs])


def are_parts(one, other, pair):
    return 0 <= pair[0] < len(one) and 0 <= pair[1] < len(other)


def is_upheld(one, other, pair, listed):
    if head(one[pair[0]]) != head(other[pair[1]]):
        return False
    for both in zip(values(one[pair[0]]), values(other[pair[1]])):
        if are_links(both):
            if linked_pair(both) not in listed:
                return False
        elif both[0] != both[1]:
            return False
    return True


def least(web):
    order = met(web)
    groups = look_groups(web, order)
    firsts = {}
    for k in order:
        firsts.setdefault(groups[k], k)
    # Groups are numbered as they are met, so the root's is 0 and the numbers are those of the new parts.
    return drawn(tuple([relinked(web[firsts[group]], groups) for group in range(len(firsts))]))


def look_groups(web, order):
    groups = grouped(order, [head(web[k]) for k in order])
    finer = grouped(order, [relinked(web[k], groups) for k in order])
    # Each round parts what parts at a way of one place more; a round that parts nothing ends it.
    while finer != groups:
        groups = finer
        finer = grouped(order, [relinked(web[k], groups) for k in order])
    return groups


def grouped(order, looks):
    numbers = {}
    groups = {}
    for k, look in zip(order, looks):
        groups[k] = numbers.setdefault(look, len(numbers))
    return groups

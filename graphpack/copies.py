"""Values put into webs, and copies of parts."""

from graphpack.errors import NoPlace, NoValue, TooMany
from graphpack.webs import MOST_PARTS, is_link, is_value, met_but, relinked, values, with_values


def put(web, k, place, value):
    if k < 0 or k >= len(web):
        raise NoPlace("the web has no such part")
    some = values(web[k])
    if place < 0 or place >= len(some):
        raise NoPlace("the part has no such place")
    if not is_value(value):
        raise NoValue("what is no value can't be put")
    if is_link(value) and value[1] >= len(web):
        raise NoValue("the link leads to no part")
    some[place] = value
    return web[:k] + (with_values(web[k], some),) + web[k + 1:]


def copied(web, k, kept=None):
    # A link to a kept part leads where it led, and a kept part's copy is itself.
    numbers = dict([(part, part) for part in ([] if kept is None else kept)])
    order = met_but(web, k, numbers)
    if len(web) + len(order) > MOST_PARTS:
        raise TooMany("the web would have too many parts")
    for number, part in enumerate(order, start=len(web)):
        numbers[part] = number
    return (web + tuple([relinked(web[part], numbers) for part in order]), numbers[k])


def shallow(web, k):
    return copied(web, k, [part for part in range(len(web)) if part != k])

"""Ways: lists of places, gone from a part of a web."""

from graphpack.errors import NoWay
from graphpack.webs import values


def value_at(web, way, k=0):
    value = ("at", k)
    for number, place in enumerate(way):
        some = values_behind(web, value)
        # Python would count a place below 0 from the end.
        if place < 0 or place >= len(some):
            raise NoWay(number)
        value = some[place]
    return value


def values_behind(web, value):
    # Behind what is no link there is no place to go to.
    if not isinstance(value, tuple):
        return []
    return values(web[value[1]])

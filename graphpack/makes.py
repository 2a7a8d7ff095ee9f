"""Records brought from one make of their class to another."""

from graphpack.errors import NoMake, TooMany
from graphpack.webs import MOST_NAMES, MOST_VALUES, count_names, pair_names


def brought(web, classes, makes):
    out = shaped(web, wanted_shapes(classes, makes))
    if count_names(out) > MOST_NAMES or not all([is_within(part) for part in out]):
        raise TooMany("a record would have too many pairs, or the web too many names")
    return out


def plain(web, classes):
    # A plain record is one of a make without fields.
    return shaped(web, dict([(entry[0], ((), dict(entry[2]))) for entry in classes]))


def wanted_shapes(classes, makes):
    # The shape of a class is the fields that its records are to have, and its fills.
    book = dict([(entry[0], entry) for entry in classes])
    shapes = {}
    for name, number in makes:
        if name not in book or name in shapes:
            raise NoMake("a class is not in the book, or stands twice")
        if number < 0 or number >= len(book[name][1]):
            raise NoMake("the class has no such make")
        shapes[name] = (book[name][1][number], dict(book[name][2]))
    return shapes


def shaped(web, shapes):
    out = []
    for part in web:
        if part[0] == "record" and part[1] in shapes:
            shape = shapes[part[1]]
            out.append(("record", part[1], shaped_pairs(part[2], shape[0], shape[1])))
        else:
            out.append(part)
    return tuple(out)


def shaped_pairs(pairs, fields, fills):
    had = dict(pairs)
    # None is a value too, so that a field which has it keeps it, whatever its fill is.
    first = [(name, had[name] if name in had else fills.get(name)) for name in fields]
    others = [(name, had[name]) for name in sorted(had) if name not in fields and had[name] != fills.get(name)]
    return tuple(first + others)


def is_within(part):
    return part[0] != "record" or len(pair_names(part)) <= MOST_VALUES

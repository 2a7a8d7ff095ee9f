"""What webs are made of, and what is met in them."""

KINDS = ("text", "row", "table", "record")
NAME_SIGNS = "0123456789abcdefghijklmnopqrstuvwxyz"
WORD_SIGNS = " 0123456789abcdefghijklmnopqrstuvwxyz"
MOST_NAME_SIGNS = 8
MOST_WORD_SIGNS = 20
MOST_VALUES = 12
MOST_PARTS = 60
MOST_NAMES = 60


def is_whole(thing):
    # To Python True and False are ints; here they are no whole numbers.
    return isinstance(thing, int) and not isinstance(thing, bool)


def is_spelled(thing, signs, most):
    return isinstance(thing, str) and len(thing) <= most and all([sign in signs for sign in thing])


def is_name(thing):
    return is_spelled(thing, NAME_SIGNS, MOST_NAME_SIGNS) and len(thing) > 0


def is_word(thing):
    return is_spelled(thing, WORD_SIGNS, MOST_WORD_SIGNS)


def is_marked(thing, mark, count):
    # What stands first may be anything, and a foreign thing may answer == as it likes: so texts alone are compared.
    return isinstance(thing, tuple) and len(thing) == count and isinstance(thing[0], str) and thing[0] == mark


def is_link(thing):
    return is_marked(thing, "at", 2) and is_whole(thing[1]) and thing[1] >= 0


def is_value(thing):
    return thing is None or is_whole(thing) or is_link(thing)


def is_tuple(thing, most):
    return isinstance(thing, tuple) and len(thing) <= most


def is_values(thing):
    return is_tuple(thing, MOST_VALUES) and all([is_value(value) for value in thing])


def is_pair(thing):
    return isinstance(thing, tuple) and len(thing) == 2 and is_name(thing[0]) and is_value(thing[1])


def is_pairs(thing):
    if not is_tuple(thing, MOST_VALUES) or not all([is_pair(pair) for pair in thing]):
        return False
    return len(set([pair[0] for pair in thing])) == len(thing)


def is_part(thing):
    if is_marked(thing, "text", 2):
        return is_word(thing[1])
    if is_marked(thing, "row", 2):
        return is_values(thing[1])
    if is_marked(thing, "table", 2):
        return is_pairs(thing[1])
    return is_marked(thing, "record", 3) and is_name(thing[1]) and is_pairs(thing[2])


def is_web(thing):
    if not is_tuple(thing, MOST_PARTS) or len(thing) == 0:
        return False
    if not all([is_part(part) for part in thing]):
        return False
    return links_lead(thing) and count_names(thing) <= MOST_NAMES


def links_lead(web):
    for part in web:
        for k in links(part):
            if k >= len(web):
                return False
    return True


def pair_names(part):
    if part[0] == "text" or part[0] == "row":
        return []
    return [pair[0] for pair in part[-1]]


def count_names(web):
    names = []
    for part in web:
        names.extend(pair_names(part))
        if part[0] == "record":
            names.append(part[1])
    return len(set(names))


def head(part):
    if part[0] == "text":
        return ("text", part[1])
    if part[0] == "row":
        return ("row", len(part[1]))
    if part[0] == "table":
        return ("table", tuple(pair_names(part)))
    return ("record", part[1], tuple(pair_names(part)))


def values(part):
    if part[0] == "text":
        return []
    if part[0] == "row":
        return list(part[1])
    return [pair[1] for pair in part[-1]]


def with_values(part, some):
    if part[0] == "text":
        return part
    if part[0] == "row":
        return ("row", tuple(some))
    pairs = tuple(zip(pair_names(part), some))
    if part[0] == "table":
        return ("table", pairs)
    return ("record", part[1], pairs)


def links(part):
    return [value[1] for value in values(part) if isinstance(value, tuple)]


def met(web, k=0):
    return met_but(web, k, {})


def met_but(web, k, left):
    order = []
    # What is left out counts as met already: it is neither told nor gone into.
    seen = dict(left)
    waiting = [k]
    while len(waiting) > 0:
        part = waiting.pop()
        if part not in seen:
            seen[part] = True
            order.append(part)
            # What waits last is taken first, and the first link goes ahead of the others.
            waiting.extend(list(reversed(links(web[part]))))
    return order


def relinked(part, numbers):
    some = [("at", numbers[value[1]]) if isinstance(value, tuple) else value for value in values(part)]
    return with_values(part, some)


def drawn(web, k=0):
    order = met(web, k)
    numbers = {}
    for number, part in enumerate(order):
        numbers[part] = number
    return tuple([relinked(web[part], numbers) for part in order])

import unittest

from graphpack.bundles import bundle, count_of, part_of, wanted
from graphpack.errors import NoPlace, WebError
from graphpack.webs import drawn, head, is_web, met
from tests.pack_words import KINDS, digits_of, fold
from tests.samples import EVERY_KIND, Maker, chain, classes_web, made_webs, names_web, ring

FAR = 10 ** 60 - 1

# What each part of EVERY_KIND has, by hand.
EVERY_BODY = (
    [15, 3, 100, 111, 103, 1, 97, 27, 1, 98, 4, 2, 99, 57, 0],
    [17, 5, 6, 0, 8],
    [16, 97, 98, 32, 99],
    [10, 1, 97, 5, 1, 98, 2],
    [1],
    [2],
    [3, 1, 55],
    [0],
)

NO_PARTS = (-1, -2, -FAR)


def signs_by_the_words(text):
    return [ord(sign) for sign in text]


def name_by_the_words(name):
    return digits_of(len(name)) + signs_by_the_words(name)


def value_by_the_words(value):
    if value is None:
        return [0]
    if isinstance(value, tuple):
        return digits_of(2 * value[1] + 2)
    return digits_of(2 * fold(value) + 1)


def body_by_the_words(part):
    out = digits_of(4 * len(part[-1]) + KINDS.index(part[0]))
    if part[0] == "text":
        out += signs_by_the_words(part[1])
    if part[0] == "row":
        for value in part[1]:
            out += value_by_the_words(value)
    if part[0] == "record":
        out += name_by_the_words(part[1])
    if part[0] in ("table", "record"):
        for name, value in part[-1]:
            out += name_by_the_words(name) + value_by_the_words(value)
    return out


class Laid:
    """A bundle of a web by the words, with the places of its count, its index and each of its parts."""

    def __init__(self, web):
        bodies = [body_by_the_words(part) for part in web]
        self.out = digits_of(len(web))
        self.count = set(range(len(self.out)))
        for body in bodies:
            self.out += digits_of(len(body))
        self.index = set(range(len(self.out)))
        self.parts = []
        for body in bodies:
            self.parts.append(set(range(len(self.out), len(self.out) + len(body))))
            self.out += body


class Look:
    """Tells bytes, and keeps the places that it was asked for."""

    def __init__(self, some):
        self.some = list(some)
        self.places = set()

    def __call__(self, place):
        if type(place) is not int or not 0 <= place < len(self.some):
            raise AssertionError("not to be looked at", place)
        self.places.add(place)
        return self.some[place]


def wide_web(count):
    """Parts with as many long numbers as there can be, so that each has more than 127 bytes."""
    maker = Maker(5)
    parts = []
    for k in range(count):
        some = [maker.below(10 ** 9) ** 6 * (-1) ** place for place in range(11)]
        parts.append(("row", tuple(some) + (("at", maker.below(count)),)))
    return tuple(parts)


def many_webs():
    return made_webs(150) + [EVERY_KIND, chain(60), ring(60), wide_web(8), wide_web(60), classes_web(60), names_web(60),
                             (("text", ""),), (("row", (FAR, -FAR, FAR // 10, None)),)]


class BundleTest(unittest.TestCase):
    def assert_bundle(self, web, some):
        self.assertIs(is_web(web), True)
        self.assertEqual(bundle(web), some)
        for k, part in enumerate(web):
            self.assertEqual(part_of(Look(some), k), part)

    def test_texts(self):
        self.assert_bundle((("text", ""),), [1, 1, 0])
        self.assert_bundle((("text", "a"),), [1, 2, 4, 97])
        self.assert_bundle((("text", "z 09"),), [1, 5, 16, 122, 32, 48, 57])
        self.assert_bundle((("text", "a" * 20),), [1, 21, 80] + [97] * 20)

    def test_rows_of_none_and_numbers(self):
        self.assert_bundle((("row", ()),), [1, 1, 1])
        self.assert_bundle((("row", (None,)),), [1, 2, 5, 0])
        self.assert_bundle((("row", (0, -1, 1, -2, 2)),), [1, 6, 21, 1, 3, 5, 7, 9])
        # The folding of -32 is 63, of 32 64: 2 * 64 + 1 has two bytes.
        self.assert_bundle((("row", (31, -32, 32, -33)),), [1, 7, 17, 125, 127, 129, 1, 129, 3])
        self.assert_bundle((("row", (1000, -1000)),), [1, 5, 9, 159, 33, 159, 31])

    def test_links_by_their_own_numbers(self):
        self.assert_bundle(ring(1), [1, 2, 5, 2])
        self.assert_bundle(ring(2), [2, 2, 2, 5, 4, 5, 2])
        self.assert_bundle((("row", (("at", 2), None, ("at", 2))), ("text", "b"), ("row", (("at", 0),))),
                           [3, 4, 2, 2, 13, 6, 0, 6, 4, 98, 5, 2])
        # In a web of sixty parts no link has two bytes: 2 * 59 + 2 is 120.
        web = (("row", (("at", 59), ("at", 31))),) + (("text", ""),) * 59
        self.assert_bundle(web, [60, 3] + [1] * 59 + [9, 120, 64] + [0] * 59)

    def test_tables_and_records(self):
        self.assert_bundle((("table", ()),), [1, 1, 2])
        self.assert_bundle((("table", (("b", None), ("a", 1))),), [1, 7, 10, 1, 98, 0, 1, 97, 5])
        self.assert_bundle((("record", "7", ()),), [1, 3, 3, 1, 55])
        self.assert_bundle((("record", "abcdefgh", (("z9", ("at", 0)),)),),
                           [1, 14, 7, 8, 97, 98, 99, 100, 101, 102, 103, 104, 2, 122, 57, 2])

    def test_names_are_told_each_time(self):
        self.assert_bundle((("record", "a", (("a", None), ("b", None))), ("table", (("a", None),))),
                           [2, 9, 4, 11, 1, 97, 1, 97, 0, 1, 98, 0, 6, 1, 97, 0])

    def test_every_kind(self):
        some = [8, 15, 5, 5, 7, 1, 1, 3, 1]
        for body in EVERY_BODY:
            some = some + body
        self.assert_bundle(EVERY_KIND, some)

    def test_parts_that_are_not_met_are_there_by_their_own_numbers(self):
        web = (("text", "a"), ("row", (("at", 2),)), ("row", (("at", 0), ("at", 1))))
        self.assert_bundle(web, [3, 2, 2, 3, 4, 97, 5, 6, 9, 2, 4])
        self.assertNotEqual(bundle(web), bundle(drawn(web)))

    def test_numbers_of_sixty_figures(self):
        for number in (FAR, -FAR, 10 ** 59, -10 ** 59):
            # Twice the folding and one: 201 or 202 digits to the base 2, so 29 of 7 each.
            some = digits_of(4 * number + 1 if number > 0 else -4 * number - 1)
            self.assertEqual(len(some), 29)
            self.assert_bundle((("row", (number,)),), [1, 30, 5] + some)

    def test_parts_of_more_than_127_bytes(self):
        number = digits_of(4 * FAR + 1)
        web = (("row", (FAR,) * 12), ("text", "b"), ("row", (FAR,) * 4), ("row", (None, FAR, FAR, FAR, FAR)))
        # 1 + 12 * 29 is 349; 1 + 4 * 29 is 117; a row of five has 118 here, still one byte.
        self.assert_bundle(web, [4, 130, 93, 2, 117, 118, 49] + number * 12 + [4, 98, 17] + number * 4
                           + [21, 0] + number * 4)
        # Of 127 bytes the length has one byte, of 128 two; 64 has two bytes, None has one.
        row = (("row", (FAR,) * 4 + (64,) * 2 + (None,) * 6),)
        self.assert_bundle(row, [1, 127, 49] + number * 4 + [130, 1] * 2 + [0] * 6)
        row = (("row", (FAR,) * 4 + (64,) * 3 + (None,) * 5),)
        self.assert_bundle(row, [1, 129, 0, 49] + number * 4 + [130, 1] * 3 + [0] * 5)

    def test_sixty_parts(self):
        self.assert_bundle((("text", ""),) * 60, [60] + [1] * 60 + [0] * 60)
        some = [60]
        for k in range(60):
            some.append(2)
        for k in range(60):
            some += [5, 2 * ((k + 1) % 60) + 2]
        self.assert_bundle(ring(60), some)

    def test_against_the_words(self):
        for web in many_webs():
            with self.subTest(web=web):
                self.assertEqual(bundle(web), Laid(web).out)

    def test_beyond_the_bounds_of_webs_nothing_is_refused(self):
        for web in (chain(61), chain(70), (("text", "ab " * 14),), (("row", (None, 7) * 20),),
                    (("record", "abcdefghi", tuple([("n" + str(k), k) for k in range(40)])),),
                    (("text", ""),) * 140, (("row", (FAR * FAR,)),)):
            some = bundle(web)
            self.assertEqual(some, Laid(web).out)
            self.assertEqual(count_of(Look(some)), len(web))
            for k, part in enumerate(web):
                self.assertEqual(part_of(Look(some), k), part)
                self.assertEqual(wanted(Look(some), k), drawn(web, k))

    def test_kinds(self):
        for web in many_webs():
            some = bundle(web)
            self.assertIs(type(some), list)
            self.assertTrue(all(type(byte) is int and 0 <= byte <= 255 for byte in some))


class LookedAtTest(unittest.TestCase):
    def test_the_count_by_its_own_bytes_alone(self):
        for web in many_webs() + [chain(140)]:
            laid = Laid(web)
            look = Look(laid.out)
            self.assertEqual(count_of(look), len(web))
            self.assertIs(type(count_of(look)), int)
            self.assertEqual(look.places, laid.count)
        self.assertEqual(count_of(Look([60])), 60)
        self.assertEqual(count_of(Look([129, 0])), 128)

    def test_a_part_alone(self):
        for web in many_webs():
            laid = Laid(web)
            for k, part in enumerate(web):
                look = Look(laid.out)
                self.assertEqual(part_of(look, k), part)
                self.assertLessEqual(look.places, laid.index | laid.parts[k])

    def test_a_wanted_web(self):
        for web in many_webs():
            laid = Laid(web)
            for k in range(0, len(web), 1 if len(web) < 20 else 7):
                look = Look(laid.out)
                self.assertEqual(wanted(look, k), drawn(web, k))
                allowed = laid.index.union(*[laid.parts[j] for j in met(web, k)])
                self.assertLessEqual(look.places, allowed)

    def test_what_stands_elsewhere_is_of_no_weight(self):
        web = EVERY_KIND
        laid = Laid(web)
        for k in range(len(web)):
            own = laid.index | laid.parts[k]
            self.assertEqual(part_of(lambda place: laid.out[place] if place in own else None, k), web[k])
            own = laid.index.union(*[laid.parts[j] for j in met(web, k)])
            self.assertEqual(wanted(lambda place: laid.out[place] if place in own else None, k), drawn(web, k))

    def test_by_hand(self):
        some = [3, 2, 2, 3, 4, 97, 5, 6, 9, 2, 4]
        web = (("text", "a"), ("row", (("at", 2),)), ("row", (("at", 0), ("at", 1))))
        for k, own in ((0, {4, 5}), (1, {6, 7}), (2, {8, 9, 10})):
            look = Look(some)
            self.assertEqual(part_of(look, k), web[k])
            self.assertLessEqual(look.places, {0, 1, 2, 3} | own)
        look = Look(some)
        self.assertEqual(wanted(look, 0), (("text", "a"),))
        self.assertLessEqual(look.places, {0, 1, 2, 3, 4, 5})
        self.assertEqual(wanted(Look(some), 1), (("row", (("at", 1),)), ("row", (("at", 2), ("at", 0))), ("text", "a")))
        self.assertEqual(wanted(Look(some), 2), (("row", (("at", 1), ("at", 2))), ("text", "a"), ("row", (("at", 0),))))

    def test_a_ring_and_a_part_held_twice(self):
        web = (("row", (("at", 1), ("at", 1), ("at", 2))), ("row", (("at", 0),)), ("row", (("at", 2), ("at", 1))))
        for k in range(3):
            self.assertEqual(wanted(Look(bundle(web)), k), drawn(web, k))
        self.assertEqual(wanted(Look(bundle(ring(60))), 59), ring(60))
        self.assertEqual(wanted(Look(bundle(chain(60))), 0), chain(60))
        self.assertEqual(wanted(Look(bundle(chain(60))), 59), (("text", "end"),))

    def test_a_look_may_be_any_function(self):
        some = bundle(EVERY_KIND)
        self.assertEqual(part_of(some.__getitem__, 2), EVERY_KIND[2])
        self.assertEqual(part_of(lambda place: some[place], 3), EVERY_KIND[3])
        self.assertEqual(wanted(dict(enumerate(some)).get, 0), EVERY_KIND[:4])

    def test_wanted_is_told_settled(self):
        for web in made_webs(80):
            for k in range(len(web)):
                told = wanted(Look(bundle(web)), k)
                self.assertIs(is_web(told), True)
                self.assertEqual(drawn(told), told)
                self.assertEqual(head(told[0]), head(web[k]))


class NoPlaceTest(unittest.TestCase):
    def assert_refused(self, web, k):
        laid = Laid(web)
        for asked in (part_of, wanted):
            look = Look(laid.out)
            with self.assertRaises(WebError) as caught:
                asked(look, k)
            self.assertIs(type(caught.exception), NoPlace)
            self.assertLessEqual(look.places, laid.index)

    def test_a_part_that_is_none(self):
        for web in (EVERY_KIND, ring(1), ring(60), wide_web(8), (("text", ""),)):
            for k in NO_PARTS + (-len(web), -len(web) - 1, len(web), len(web) + 1, len(web) + 7, 128, FAR):
                self.assert_refused(web, k)

    def test_the_last_part_is_not_refused(self):
        for web in (EVERY_KIND, ring(60), wide_web(8)):
            self.assertEqual(part_of(Look(bundle(web)), len(web) - 1), web[-1])
            self.assertEqual(wanted(Look(bundle(web)), len(web) - 1), drawn(web, len(web) - 1))
            self.assertEqual(part_of(Look(bundle(web)), 0), web[0])


class StaysTest(unittest.TestCase):
    def test_what_is_told_is_the_askers_own(self):
        first = bundle(EVERY_KIND)
        kept = list(first)
        first.append(9)
        first[0] = 77
        self.assertEqual(bundle(EVERY_KIND), kept)
        second = bundle(EVERY_KIND)
        self.assertEqual(second, kept)

    def test_a_bundle_that_is_looked_at_stays_and_may_be_changed_behind_it(self):
        some = bundle(EVERY_KIND)
        kept = list(some)
        part = part_of(some.__getitem__, 1)
        web = wanted(some.__getitem__, 0)
        self.assertEqual(count_of(some.__getitem__), 8)
        self.assertEqual(some, kept)
        some.clear()
        self.assertEqual((part, web), (EVERY_KIND[1], EVERY_KIND[:4]))
        some.extend(bundle((("text", "other"),)))
        self.assertEqual(wanted(some.__getitem__, 0), (("text", "other"),))

    def test_asked_again_the_same_is_told(self):
        for web in made_webs(30):
            look = Look(bundle(web))
            self.assertEqual(bundle(web), bundle(web))
            for k in range(len(web)):
                self.assertEqual(part_of(look, k), part_of(look, k))
                self.assertEqual(wanted(look, k), wanted(look, k))

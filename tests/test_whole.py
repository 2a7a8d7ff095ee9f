"""What the document promises over the whole program, sentence by sentence."""

import copy
import itertools
import unittest

from graphpack.bundles import bundle, count_of, part_of, wanted
from graphpack.copies import copied, put, shallow
from graphpack.desk import Desk
from graphpack.errors import NoPack, WebError
from graphpack.looks import is_closed, least, look_table, parting_way
from graphpack.makes import brought, plain
from graphpack.packs import pack, unpacked
from graphpack.reader import Reader
from graphpack.same import is_pairing, pairing, parted, same
from graphpack.slips import laid, mark, slip, stay
from graphpack.texts import read, shown
from graphpack.ways import value_at
from graphpack.webs import drawn, head, is_web, met, values
from tests.pack_words import Parser, outcome_by_the_words
from tests.samples import (EVERY_KIND, Maker, beside, chain, classes_web, laid_out, made_webs, names_web, plain_webs,
                           renumbered, ring)

BOOK = (
    ("dog", (("a", "b"), ("b", "cd", "a"), ()), (("a", 1), ("cd", 0))),
    ("cat", ((), ("e0",), ("99", "a")), ()),
    ("0", (("a",), ("b",)), (("b", -1),)),
)


def in_pieces(some, maker):
    reader = Reader()
    place = 0
    while place < len(some):
        size = maker.below(5)
        reader.give(some[place:place + size])
        place += size
    return reader.web()


def by_a_slip(web, base):
    return laid(base, slip(base, web))


def by_a_copy(web):
    told = copied(web, 0)
    return drawn(told[0], told[1])


def by_a_desk(rows):
    desk = Desk()
    for row in rows[:-1]:
        desk.say(row)
    return desk.say(rows[-1])


def in_hex(some):
    return bytes(some).hex()


def out_of_hex(text):
    return list(bytes.fromhex(text))


def roads(web, maker):
    """The web, by each road from here to there, each with its name."""
    text = "web a " + shown(web)
    base = maker.chosen((maker.web(), maker.changed(web), chain(5), EVERY_KIND))
    out = {
        "shown and read": read(shown(web)),
        "packed": unpacked(pack(web)),
        "in pieces": in_pieces(pack(web), maker),
        "bundled": wanted(bundle(web).__getitem__, 0),
        "as parts": tuple([part_of(bundle(web).__getitem__, k) for k in range(count_of(bundle(web).__getitem__))]),
        "as a slip": by_a_slip(web, base),
        "as a slip of its own": by_a_slip(web, web),
        "drawn": drawn(web),
        "drawn otherwise": renumbered(web, [0] + maker.shuffled(range(1, len(web)))),
        "by a desk": read(by_a_desk([text, "show a"])),
        "drawn by a desk": read(by_a_desk([text, "draw b a 0", "show b"])),
        "packed by a desk": unpacked(out_of_hex(by_a_desk([text, "pack a"]))),
        "unpacked by a desk": read(by_a_desk(["unpack a " + in_hex(pack(web)), "show a"])),
        "changed by a desk": read(by_a_desk([text, "web b " + shown(base), "change c b a b", "show c"])),
    }
    if len(web) + len(met(web)) <= 60:
        out["copied"] = by_a_copy(web)
        out["copied by a desk"] = drawn(read(by_a_desk([text, "copy b a 0", "show b"])), len(web))
    return out


def some_webs():
    return made_webs(60) + plain_webs(20, 9) + [EVERY_KIND, chain(30), chain(60), ring(60), names_web(60), classes_web(60)]


class RoadsTest(unittest.TestCase):
    def test_by_all_roads_it_is_the_same_web_with_one_pack(self):
        maker = Maker(2)
        for web in some_webs():
            some = pack(web)
            for road, there in roads(web, maker).items():
                with self.subTest(road=road, web=web):
                    self.assertIs(same(web, there), True)
                    self.assertEqual(pack(there), some)
                    self.assertEqual(unpacked(some), drawn(there))
                    self.assertIsNone(parted(web, there))
                    told = pairing(web, there)
                    self.assertEqual(told, sorted(zip(met(web), met(there))))
                    self.assertIs(is_pairing(web, there, told), True)
                    self.assertEqual(mark(there), mark(web))
                    self.assertEqual(least(there), least(web))

    def test_several_roads_one_behind_the_other(self):
        maker = Maker(3)
        for web in made_webs(25):
            there = web
            for _ in range(6):
                ways = roads(there, maker)
                there = ways[maker.chosen(sorted(ways))]
            self.assertEqual(pack(there), pack(web))

    def test_there_is_just_one_pairing(self):
        for web in plain_webs(60, 5) + made_webs(30):
            there = unpacked(pack(web))
            order = met(web)
            if len(order) <= 5:
                found = [sorted(zip(order, other)) for other in itertools.permutations(range(len(there)))]
                self.assertEqual([pairs for pairs in found if is_pairing(web, there, pairs)], [pairing(web, there)])


class PacksTest(unittest.TestCase):
    def test_the_same_just_if_their_packs_are_or_else_it_is_told_where_they_part(self):
        maker = Maker(5)
        sorts = {}
        for web in made_webs(60) + plain_webs(120, 6):
            for other in (maker.changed(web), maker.plain_web(6), renumbered(web, [0] + maker.shuffled(range(1, len(web))))):
                told = parted(web, other)
                self.assertEqual(pack(web) == pack(other), told is None)
                self.assertEqual(same(web, other), told is None)
                sort = None if told is None else told[0]
                sorts[sort] = sorts.get(sort, 0) + 1
                if sort == "value":
                    self.assert_parting(web, other, told[1])
                if sort == "shared":
                    ahead = (value_at(web, told[1]), value_at(other, told[1]))
                    behind = (value_at(web, told[2]), value_at(other, told[2]))
                    self.assertEqual([ahead[0] == behind[0], ahead[1] == behind[1]].count(True), 1)
                    self.assertLess((len(told[1]), told[1]), (len(told[2]), told[2]))
        self.assertGreater(min([sorts[sort] for sort in (None, "value", "shared")]), 10, sorts)

    def assert_parting(self, web, other, way):
        one, two = value_at(web, way), value_at(other, way)
        if isinstance(one, tuple) and isinstance(two, tuple):
            self.assertNotEqual(head(web[one[1]]), head(other[two[1]]))
        else:
            self.assertNotEqual(one, two)

    def test_no_part_and_no_name_stands_in_it_twice(self):
        for web in some_webs():
            told = Parser(pack(web))
            self.assertEqual(len(told.parts), len(met(web)))
            self.assertEqual(len(set(told.names)), len(told.names))
            self.assertEqual(tuple(told.parts), drawn(web))

    def test_in_whatever_pieces_it_comes_to_the_same(self):
        maker = Maker(6)
        for web in some_webs():
            for _ in range(3):
                self.assertEqual(in_pieces(pack(web), maker), drawn(web))

    def test_what_is_no_pack_is_refused_at_the_first_byte_with_which_none_goes_on(self):
        maker = Maker(7)
        count = 0
        for web in made_webs(60):
            for _ in range(6):
                some = pack(web)
                some[maker.below(len(some))] = maker.below(256)
                told = outcome_by_the_words(some)
                try:
                    self.assertEqual(unpacked(some), told)
                except NoPack as refusal:
                    self.assertEqual(refusal.at, told)
                    reader = Reader()
                    reader.give(some[:told])
                    self.assertEqual(reader.taken(), told)
                    count += 1
        self.assertGreater(count, 100)


class LooksTest(unittest.TestCase):
    def test_two_parts_look_alike_just_if_a_table_shows_it(self):
        for web in made_webs(40) + plain_webs(40, 6):
            for p, q in itertools.product(range(len(web)), repeat=2):
                table = look_table(web, p, q)
                self.assertEqual(table is None, parting_way(web, p, q) is not None)
                if table is not None:
                    self.assertIn((p, q), table)
                    self.assertIs(is_closed(web, table), True)

    def test_no_two_parts_of_a_least_web_look_alike(self):
        maker = Maker(9)
        for web in made_webs(40) + plain_webs(40, 6):
            small = least(web)
            for p, q in itertools.combinations(range(len(small)), 2):
                self.assertIsNotNone(parting_way(small, p, q))
            self.assertIsNotNone(look_table(beside(web, small), 0, len(web)))
            self.assertEqual(least(laid_out(maker, web, 3)), small)


class CopiesTest(unittest.TestCase):
    def test_a_copy_shares_just_what_it_is_told_to_share(self):
        maker = Maker(10)
        for web in made_webs(60):
            k = maker.below(len(web))
            kept = [part for part in range(len(web)) if maker.below(3) == 0]
            others = [part for part in range(len(web)) if part != k]
            for told, keep in ((copied(web, k, kept), kept), (shallow(web, k), others), (copied(web, k), [])):
                out, number = told
                mine, yours = met(out, k), met(out, number)
                # What both hold is a kept part, or held by one.
                held = {part for j in keep for part in met(web, j)}
                self.assertEqual([part for part in yours if part in mine and part not in held], [])
                for part in range(len(out)):
                    for place in range(len(values(out[part]))):
                        changed = put(out, part, place, maker.plain_value(len(out)))
                        if part not in yours:
                            self.assertEqual(drawn(changed, number), drawn(out, number))
                        if part not in mine:
                            self.assertEqual(drawn(changed, k), drawn(out, k))


class BundlesTest(unittest.TestCase):
    def test_a_wanted_part_read_alone_is_what_it_is_in_the_whole(self):
        for web in made_webs(40) + [EVERY_KIND]:
            some = bundle(web)
            sizes = some[1:1 + len(web)]
            self.assertTrue(max(sizes) < 128)
            index = 1 + len(web)
            for k, part in enumerate(web):
                own = list(range(index)) + list(range(index + sum(sizes[:k]), index + sum(sizes[:k + 1])))
                places = []
                self.assertEqual(part_of(lambda place: places.append(place) or some[place], k), part)
                self.assertEqual([place for place in places if place not in own], [])


class MakesTest(unittest.TestCase):
    def test_from_make_to_make_in_one_step_or_in_many_and_back(self):
        maker = Maker(12)
        count = 0
        for web in made_webs(150):
            lists = [[("dog", maker.below(3)), ("cat", maker.below(3)), ("0", maker.below(2))] for _ in range(4)]
            first = brought(web, BOOK, lists[0])
            there = first
            for makes in lists[1:]:
                there = brought(there, BOOK, makes)
            self.assertEqual(there, brought(web, BOOK, lists[-1]))
            self.assertEqual(brought(there, BOOK, lists[0]), first)
            self.assertEqual(plain(there, BOOK), plain(web, BOOK))
            count += there != first
        self.assertGreater(count, 50)


class SlipsTest(unittest.TestCase):
    def test_laid_upon_the_old_web_it_is_the_new_one_and_writes_no_part_that_stayed(self):
        maker = Maker(13)
        for old in made_webs(80):
            new = maker.changed(maker.changed(old))
            told = slip(old, new)
            self.assertEqual(laid(old, told), drawn(new))
            stayed = [pair[1] for pair in stay(old, new)]
            for number, row in enumerate(told[1]):
                self.assertEqual(row[0] == "old", number in stayed)


def asked(web, other):
    """What is told of two webs, by each question that there is."""
    k = len(web) - 1
    return [shown(web), read(shown(web)), is_web(web), [head(part) for part in web], [values(part) for part in web],
            met(web, k), drawn(web, k), look_table(web, 0, k), parting_way(web, 0, k), is_closed(web, [(0, k)]), least(web),
            same(web, other), pairing(web, other), pairing(web, web), is_pairing(web, other, [(0, 0)]), parted(web, other),
            copied(web, 0, [k]), shallow(web, k), pack(web), unpacked(pack(web)), bundle(web),
            part_of(bundle(web).__getitem__, k), wanted(bundle(web).__getitem__, k), brought(web, BOOK, [("dog", 1)]),
            plain(web, BOOK), stay(web, other), mark(web), slip(web, other), laid(web, slip(web, other))]


def spoil(thing):
    """Changes each list that stands in what was told."""
    if isinstance(thing, (list, tuple)):
        for inner in thing:
            spoil(inner)
    if isinstance(thing, list):
        thing.append("spoiled")
        thing.reverse()


class StaysTest(unittest.TestCase):
    def test_what_is_handed_in_stays_and_what_is_told_is_the_askers_own(self):
        maker = Maker(14)
        for web in made_webs(40):
            other = maker.changed(web)
            kept = copy.deepcopy((web, other))
            first = asked(web, other)
            held = copy.deepcopy(first)
            spoil(first)
            self.assertNotEqual(first, held)
            self.assertEqual(asked(web, other), held)
            self.assertEqual((web, other), kept)
            self.assertEqual(asked(kept[0], kept[1]), held)

    def test_lists_that_are_handed_in_stay_and_may_be_changed_behind_the_call(self):
        web = EVERY_KIND
        lists = [[1, 1], [(0, 0), (1, 1)], [1, 2, 1], [("dog", 1)], pack(web)]
        kept = copy.deepcopy(lists)
        reader = Reader()
        told = [value_at(web, lists[0]), is_closed(web, lists[1]), is_pairing(web, web, lists[1]),
                copied(web, 0, lists[2]), brought(web, BOOK, lists[3]), unpacked(lists[4]), reader.give(lists[4])]
        self.assertEqual(lists, kept)
        held = copy.deepcopy(told)
        spoil(lists)
        self.assertEqual(told, held)
        self.assertEqual(reader.web(), drawn(web))

    def test_a_refusal_changes_nothing_for_later_calls(self):
        held = asked(EVERY_KIND, ring(3))
        for call in (lambda: read("["), lambda: unpacked([0]), lambda: put(EVERY_KIND, 99, 0, 0), lambda: Desk().say("x"),
                     lambda: value_at(EVERY_KIND, [9]), lambda: brought(EVERY_KIND, BOOK, [("bird", 0)]),
                     lambda: laid(EVERY_KIND, (0, ())), lambda: part_of(bundle(EVERY_KIND).__getitem__, 9)):
            with self.assertRaises(WebError):
                call()
        self.assertEqual(asked(EVERY_KIND, ring(3)), held)

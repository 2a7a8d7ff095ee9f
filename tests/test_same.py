import copy
import unittest

from graphpack.looks import parting_way
from graphpack.same import is_pairing, pairing, parted, same
from graphpack.webs import drawn, head, met, values
from tests.samples import (EVERY_KIND, Maker, beside, chain, laid_out, made_webs, plain_webs, renumbered, ring,
                           ways_from)

SHARED = (("row", (("at", 1), ("at", 1))), ("text", "a"))
APART = (("row", (("at", 1), ("at", 2))), ("text", "a"), ("text", "a"))


def parted_by_the_words(one, other, longest):
    here = ways_from(one, 0, longest)
    there = ways_from(other, 0, longest)
    led = {tuple(way): value for way, value in there}
    gone = []
    for way, mine in here:
        if tuple(way) not in led:
            continue
        yours = led[tuple(way)]
        if not isinstance(mine, tuple) or not isinstance(yours, tuple):
            if mine != yours:
                return ("value", way)
            continue
        if head(one[mine[1]]) != head(other[yours[1]]):
            return ("value", way)
        if any([(mine == a) != (yours == b) for a, b in gone]):
            ahead = [lesser for lesser, value in here if value == mine] + [lesser for lesser, value in there
                                                                            if value == yours]
            return ("shared", min(ahead, key=lambda some: (len(some), some)), way)
        gone.append((mine, yours))
    return None


def pairing_by_the_words(one, other, pairs):
    if (0, 0) not in pairs:
        return False
    if len({k for k, j in pairs}) < len(pairs) or len({j for k, j in pairs}) < len(pairs):
        return False
    for k, j in pairs:
        if head(one[k]) != head(other[j]):
            return False
        for mine, yours in zip(values(one[k]), values(other[j])):
            linked = isinstance(mine, tuple) and isinstance(yours, tuple)
            if linked and (mine[1], yours[1]) not in pairs or not linked and mine != yours:
                return False
    return True


class SameTest(unittest.TestCase):
    def assert_same(self, one, other, pairs):
        for mine, yours, told in ((one, other, pairs), (other, one, sorted([(j, k) for k, j in pairs]))):
            with self.subTest(mine=mine, yours=yours):
                self.assertIs(same(mine, yours), True)
                self.assertEqual(pairing(mine, yours), told)
                self.assertIs(is_pairing(mine, yours, told), True)
                self.assertIsNone(parted(mine, yours))

    def test_a_web_and_itself(self):
        for web in (EVERY_KIND, SHARED, APART, ring(1), ring(60), chain(60), (("text", ""),)):
            self.assert_same(web, web, sorted([(k, k) for k in met(web)]))

    def test_numbered_otherwise(self):
        web = (("row", (("at", 1), ("at", 3))), ("table", (("a", ("at", 2)),)), ("text", "x"), ("text", "y"))
        self.assert_same(web, renumbered(web, [0, 3, 1, 2]), [(0, 0), (1, 3), (2, 1), (3, 2)])
        self.assert_same(ring(4), renumbered(ring(4), [0, 2, 1, 3]), [(0, 0), (1, 2), (2, 1), (3, 3)])

    def test_with_parts_that_nothing_leads_to(self):
        web = (("row", (("at", 2),)), ("text", "unmet"), ("text", "x"))
        self.assert_same(web, drawn(web), [(0, 0), (2, 1)])
        self.assert_same(web, web + (("row", (("at", 0),)), ("row", (7,))), [(0, 0), (2, 2)])
        self.assert_same((("row", (1,)), ("row", (2,))), (("row", (1,)), ("text", "a"), ("row", (3,))), [(0, 0)])

    def test_rising_by_the_one_not_as_they_are_met(self):
        web = (("row", (("at", 2), ("at", 1))), ("text", "b"), ("text", "a"))
        self.assert_same(web, drawn(web), [(0, 0), (1, 2), (2, 1)])
        self.assertEqual(type(pairing(web, web)), list)
        self.assertTrue(all([type(pair) is tuple for pair in pairing(web, web)]))

    def test_sharing_and_rings(self):
        for one, other in ((SHARED, APART), (ring(1), ring(2)), (ring(3), ring(4)),
                           ((("row", (("at", 1),)), ("row", (("at", 1),))), ring(1))):
            for mine, yours in ((one, other), (other, one)):
                self.assertIs(same(mine, yours), False)
                self.assertIsNone(pairing(mine, yours))
                self.assertIsNotNone(parted(mine, yours))

    def test_one_thing_changed(self):
        for other in ((("row", (1, None)),), (("row", (1, 0)),), (("row", (1, ("at", 0))),), (("row", (1,)),),
                      (("row", (2, 1)),), (("row", (1, 2, None)),), (("text", ""),), (("table", (("a", 1), ("b", 2))),)):
            self.assertIs(same((("row", (1, 2)),), other), False)
            self.assertIsNone(pairing((("row", (1, 2)),), other))
            self.assertIsNone(pairing(other, (("row", (1, 2)),)))
        paired = (("table", (("a", 1), ("b", 2))),)
        for other in ((("table", (("b", 2), ("a", 1))),), (("record", "dog", (("a", 1), ("b", 2))),),
                      (("table", (("a", 1), ("c", 2))),), (("table", (("a", 2), ("b", 1))),)):
            self.assertIs(same(paired, other), False)

    def test_made_webs_numbered_otherwise(self):
        maker = Maker(11)
        for web in made_webs(200):
            numbers = [0] + maker.shuffled(range(1, len(web)))
            self.assert_same(web, renumbered(web, numbers), sorted([(k, numbers[k]) for k in met(web)]))
            self.assert_same(web, drawn(web), sorted([(k, number) for number, k in enumerate(met(web))]))

    def test_none_is_told_of_all_others(self):
        webs = plain_webs(40, 3) + [web + (("text", "b"),) for web in plain_webs(20, 3)]
        found = {True: 0, False: 0}
        for one in webs:
            for other in webs:
                alike = drawn(one) == drawn(other)
                self.assertIs(same(one, other), alike)
                self.assertEqual(pairing(one, other) is None, not alike)
                self.assertEqual(parted(one, other) is None, alike)
                found[alike] += one != other
        self.assertGreater(min(found.values()), 10)


class PairingsTest(unittest.TestCase):
    one = (("row", (("at", 1), ("at", 2), 5)), ("text", "a"), ("text", "a"), ("row", (("at", 3), ("at", 1))),
           ("text", "b"), ("text", "b"))
    other = (("row", (("at", 3), ("at", 1), 5)), ("text", "a"), ("row", (("at", 2), ("at", 3))), ("text", "a"),
             ("text", "b"))
    told = [(0, 0), (1, 3), (2, 1)]

    def assert_pairing(self, pairs, answer):
        with self.subTest(pairs):
            self.assertIs(is_pairing(self.one, self.other, pairs), answer)
            turned = [(j, k) for k, j in pairs]
            self.assertIs(is_pairing(self.other, self.one, turned), answer)

    def test_the_one_that_is_told(self):
        self.assertEqual(pairing(self.one, self.other), self.told)
        self.assert_pairing(self.told, True)

    def test_in_whatever_order(self):
        self.assert_pairing([(2, 1), (0, 0), (1, 3)], True)
        self.assert_pairing([(1, 3), (2, 1), (0, 0)], True)

    def test_parts_that_are_not_met_among_them(self):
        self.assert_pairing(self.told + [(3, 2)], True)
        self.assert_pairing(self.told + [(4, 4)], True)
        self.assert_pairing([(5, 4), (3, 2)] + self.told, True)

    def test_a_pair_left_out(self):
        for pair in self.told:
            self.assert_pairing([some for some in self.told if some != pair], False)
        self.assert_pairing([(0, 0)], False)
        self.assert_pairing([], False)

    def test_a_pair_put_in(self):
        for pair in ((4, 3), (4, 2), (3, 4), (1, 1), (2, 3), (0, 1), (1, 0), (0, 4), (3, 3), (5, 1)):
            self.assert_pairing(self.told + [pair], False)

    def test_a_part_in_two_pairs(self):
        # Both of these keep heads and values, but not the sharing.
        self.assert_pairing(self.told + [(4, 4), (5, 4)], False)
        self.assertIs(is_pairing(SHARED, APART, [(0, 0), (1, 1), (1, 2)]), False)
        self.assertIs(is_pairing(APART, SHARED, [(0, 0), (1, 1), (2, 1)]), False)
        self.assertIs(is_pairing(ring(1), ring(2), [(0, 0), (0, 1)]), False)
        self.assertIs(is_pairing(ring(2), ring(1), [(0, 0), (1, 0)]), False)

    def test_a_pair_twice(self):
        for pair in self.told:
            self.assert_pairing(self.told + [pair], False)
        self.assert_pairing(self.told + self.told, False)

    def test_led_to_another_part(self):
        self.assert_pairing([(0, 0), (1, 1), (2, 3)], False)
        self.assert_pairing([(0, 0), (1, 4), (2, 1)], False)
        self.assert_pairing([(0, 0), (1, 1), (2, 1)], False)
        self.assert_pairing([(0, 2), (1, 3), (2, 1)], False)

    def test_without_the_roots(self):
        self.assert_pairing([(1, 3), (2, 1)], False)
        self.assert_pairing([(4, 4)], False)
        # Closed, and no part twice, but the roots are not a pair.
        self.assertIs(is_pairing(ring(3), ring(3), [(0, 1), (1, 2), (2, 0)]), False)
        self.assertIs(is_pairing(ring(3), ring(3), [(0, 0), (1, 1), (2, 2)]), True)

    def test_values_and_heads(self):
        for value in (None, 0, 1, ("at", 0)):
            self.assertIs(is_pairing((("row", (value,)),), (("row", (value,)),), [(0, 0)]), True)
            self.assertIs(is_pairing((("row", (value,)),), (("row", (7,)),), [(0, 0)]), False)
            self.assertIs(is_pairing((("row", (value,)),), (("row", (value, value)),), [(0, 0)]), False)
            self.assertIs(is_pairing((("row", (value,)),), (("table", (("a", value),)),), [(0, 0)]), False)
        self.assertIs(is_pairing((("text", "a"),), (("text", "b"),), [(0, 0)]), False)

    def test_numbers_of_no_parts(self):
        for pair in ((-1, 0), (0, -1), (-1, -1), (1, 1), (1, 0), (0, 1), (99, 99)):
            self.assertIs(is_pairing((("text", "a"),), (("text", "a"),), [(0, 0), pair]), False)
            self.assertIs(is_pairing((("text", "a"),), (("text", "a"),), [pair]), False)

    def test_against_the_words(self):
        maker = Maker(21)
        found = {True: 0, False: 0}
        for one in plain_webs(150, 3):
            for other in (one, renumbered(one, [0] + maker.shuffled(range(1, len(one)))), maker.plain_web(3)):
                every = [(k, j) for k in range(len(one)) for j in range(len(other))]
                lists = [maker.shuffled([pair for pair in every if maker.below(2)]) for _ in range(6)]
                for pairs in lists + [list(zip(met(one), met(other)))]:
                    told = is_pairing(one, other, pairs)
                    self.assertIs(told, pairing_by_the_words(one, other, pairs))
                    found[told] += 1
        self.assertGreater(min(found.values()), 50)

    def test_just_one_pairing_of_the_parts_that_are_met(self):
        maker = Maker(31)
        for one in plain_webs(60, 3):
            for other in (renumbered(one, [0] + maker.shuffled(range(1, len(one)))), maker.plain_web(3)):
                every = [(k, j) for k in met(one) for j in met(other)]
                found = []
                for mask in range(1 << len(every)):
                    pairs = [pair for number, pair in enumerate(every) if mask >> number & 1]
                    if is_pairing(one, other, pairs):
                        found.append(sorted(pairs))
                told = pairing(one, other)
                self.assertEqual(found, [] if told is None else [told])


class PartedTest(unittest.TestCase):
    def assert_parted(self, one, other, told):
        for mine, yours in ((one, other), (other, one)):
            with self.subTest(mine=mine, yours=yours):
                self.assertEqual(parted(mine, yours), told)
                self.assertIs(type(parted(mine, yours)), tuple)
                self.assertTrue(all([type(way) is list for way in parted(mine, yours)[1:]]))
                self.assertIs(same(mine, yours), False)
                self.assertIsNone(pairing(mine, yours))

    def test_the_roots_heads(self):
        for other in ((("text", "b"),), (("row", ()),), (("table", ()),), (("record", "a", ()),)):
            self.assert_parted((("text", "a"),), other, ("value", []))
        self.assert_parted((("table", (("a", 1), ("b", 2))),), (("table", (("b", 2), ("a", 1))),), ("value", []))

    def test_by_a_value(self):
        self.assert_parted((("row", (1, 2, 3)),), (("row", (1, 3, 2)),), ("value", [1]))
        some = (None, 0, 1, -1, ("at", 0))
        for p in range(len(some)):
            for q in range(p):
                self.assert_parted((("row", (5, some[p])),), (("row", (5, some[q])),), ("value", [1]))

    def test_by_a_head(self):
        one = (("row", (1, ("at", 1))), ("text", "a"))
        for part in (("text", "b"), ("row", ()), ("table", ())):
            self.assert_parted(one, (one[0], part), ("value", [1]))

    def test_the_least_way(self):
        one = (("row", (("at", 1), ("at", 2))), ("row", (8,)), ("row", (9,)))
        self.assert_parted(one, (one[0], ("row", (7,)), ("row", (7,))), ("value", [0, 0]))
        self.assert_parted(one, (one[0], one[1], ("row", (7,))), ("value", [1, 0]))
        self.assert_parted(one, (one[0], ("row", (7,)), ("text", "a")), ("value", [1]))
        self.assert_parted(chain(60), chain(60)[:59] + (("text", "other"),), ("value", [1] * 59))
        self.assert_parted(chain(60), chain(58) + (("row", (0, None)),), ("value", [1] * 57))

    def test_by_sharing_alone(self):
        self.assert_parted(SHARED, APART, ("shared", [0], [1]))
        for one, other in ((SHARED, APART), (ring(2), ring(5))):
            self.assertIsNone(parting_way(beside(one, other), 0, len(one)))

    def test_rings(self):
        self.assert_parted(ring(1), ring(2), ("shared", [], [0]))
        self.assert_parted(ring(2), ring(5), ("shared", [], [0, 0]))
        self.assert_parted(ring(30), ring(60), ("shared", [], [0] * 30))
        tail = (("row", (("at", 1),)), ("row", (("at", 1),)))
        self.assert_parted(ring(1), tail, ("shared", [], [0]))
        self.assert_parted(ring(2), tail, ("shared", [], [0, 0]))
        longer = (("row", (("at", 1),)), ("row", (("at", 2),)), ("row", (("at", 1),)))
        self.assert_parted(longer, tail, ("shared", [0], [0, 0]))
        self.assert_parted(longer, ring(3), ("shared", [], [0, 0, 0]))
        self.assert_parted(longer, ring(2), ("shared", [], [0, 0]))

    def test_both_led_to_by_lesser_ways(self):
        # The last place leads to what was met first in the one, and to what was met second in the other.
        texts = (("text", "a"), ("text", "a"))
        one = (("row", (("at", 1), ("at", 2), ("at", 1))),) + texts
        other = (("row", (("at", 1), ("at", 2), ("at", 2))),) + texts
        self.assert_parted(one, other, ("shared", [0], [2]))
        # The same, where the lesser way is the longer list's beginning or the shorter list.
        deep = (("row", (("at", 1), ("at", 2))), ("row", (("at", 1),)), ("row", (("at", 0),)))
        self.assert_parted(deep, deep[:2] + (("row", (("at", 2),)),), ("value", [1, 0]))
        same_heads = (("row", (("at", 1), ("at", 2))), ("row", (("at", 0), ("at", 1))), ("row", (("at", 0), ("at", 0))))
        others = same_heads[:2] + (("row", (("at", 0), ("at", 1))),)
        self.assert_parted(same_heads, others, ("shared", [], [1, 1]))
        others = same_heads[:2] + (("row", (("at", 2), ("at", 0))),)
        self.assert_parted(same_heads, others, ("shared", [], [1, 0]))

    def test_sharing_ahead_of_a_value_and_behind_it(self):
        tail = (("text", "a"), ("text", "a"))
        one = (("row", (("at", 1), ("at", 1), 5)),) + tail
        self.assert_parted(one, (("row", (("at", 1), ("at", 2), 6)),) + tail, ("shared", [0], [1]))
        one = (("row", (5, ("at", 1), ("at", 1))),) + tail
        self.assert_parted(one, (("row", (6, ("at", 1), ("at", 2))),) + tail, ("value", [0]))
        # One way that does both, by the head first.
        one = (("row", (("at", 1), ("at", 1))), ("text", "a"))
        self.assert_parted(one, (("row", (("at", 1), ("at", 2))), ("text", "a"), ("text", "b")), ("value", [1]))

    def test_a_shorter_way_shares_ahead_of_a_value_deeper(self):
        one = (("row", (("at", 1), ("at", 2), ("at", 2))), ("row", (1,)), ("text", "a"), ("text", "a"))
        other = (("row", (("at", 1), ("at", 2), ("at", 3))), ("row", (2,)), ("text", "a"), ("text", "a"))
        self.assert_parted(one, other, ("shared", [1], [2]))

    def test_the_least_way_ahead_is_the_one_of_fewest_places(self):
        # Way [0, 0] comes first as a list, but [1] has fewer places.
        one = (("row", (("at", 1), ("at", 2), 0)), ("row", (("at", 2), ("at", 2))), ("text", "a"))
        other = (("row", (("at", 1), ("at", 2), 0)), ("row", (("at", 2), ("at", 3))), ("text", "a"), ("text", "a"))
        self.assert_parted(one, other, ("shared", [1], [0, 1]))

    def test_parts_that_are_not_met_and_other_numbers(self):
        maker = Maker(41)
        for one in plain_webs(40, 4):
            for other in plain_webs(8, 4):
                turned = renumbered(other + (("row", (("at", 0), 9)),), [0] + maker.shuffled(range(1, len(other) + 1)))
                self.assertEqual(parted(one, turned), parted(one, other))

    def test_against_the_words(self):
        maker = Maker(51)
        found = {"value": 0, "shared": 0}
        for one in plain_webs(400, 4):
            for other in (laid_out(maker, one, 2), maker.changed(one), maker.changed(one), maker.plain_web(4),
                          renumbered(one, [0] + maker.shuffled(range(1, len(one))))):
                told = parted_by_the_words(one, other, 6)
                with self.subTest(one=one, other=other):
                    self.assertEqual(parted(one, other), told)
                    self.assertEqual(parted(other, one), told)
                    self.assertEqual(told is None, same(one, other))
                if told is not None:
                    found[told[0]] += len(told[-1]) > 1
        self.assertGreater(min(found.values()), 30)


class StaysTest(unittest.TestCase):
    def test_what_is_handed_in_stays(self):
        one, other = copy.deepcopy(SHARED), copy.deepcopy(APART)
        pairs = [(1, 1), (0, 0), (1, 2)]
        same(one, other), pairing(one, other), parted(one, other), is_pairing(one, other, pairs)
        is_pairing(one, one, pairs[:2])
        self.assertEqual((one, other), (SHARED, APART))
        self.assertEqual(pairs, [(1, 1), (0, 0), (1, 2)])

    def test_what_is_told_is_the_askers_own(self):
        told = pairing(SHARED, SHARED)
        told.append((7, 7))
        told.pop(0)
        self.assertEqual(pairing(SHARED, SHARED), [(0, 0), (1, 1)])
        first = parted(SHARED, APART)
        first[1].append(7)
        self.assertEqual(first[2], [1])
        first[2].clear()
        self.assertEqual(parted(SHARED, APART), ("shared", [0], [1]))
        for other, kept in ((APART[1:2], []), ((("row", (("at", 1), 5)), ("text", "a")), [1])):
            parted(SHARED, other)[1].append(9)
            self.assertEqual(parted(SHARED, other), ("value", kept))

    def test_asked_again_the_same_is_told(self):
        webs = plain_webs(20, 4)
        for one in webs:
            for other in webs:
                self.assertEqual(parted(one, other), parted(copy.deepcopy(one), copy.deepcopy(other)))
                self.assertEqual(pairing(one, other), pairing(copy.deepcopy(one), copy.deepcopy(other)))

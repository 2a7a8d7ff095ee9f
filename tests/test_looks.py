import copy
import unittest

from graphpack.looks import is_closed, least, look_table, parting_way
from graphpack.webs import drawn, head, is_web, met, values
from tests.samples import (EVERY_KIND, Maker, beside, chain, laid_out, made_webs, plain_webs, renumbered, ring,
                           ways_from)


def part_here(web, mine, yours):
    if isinstance(mine, tuple) and isinstance(yours, tuple):
        return head(web[mine[1]]) != head(web[yours[1]])
    return mine != yours


def parting_by_the_words(web, p, q, longest):
    there = {tuple(way): value for way, value in ways_from(web, q, longest)}
    for way, value in ways_from(web, p, longest):
        if tuple(way) in there and part_here(web, value, there[tuple(way)]):
            return way
    return None


def table_by_the_words(web, p, q, longest):
    there = {tuple(way): value for way, value in ways_from(web, q, longest)}
    return sorted({(value[1], there[tuple(way)][1]) for way, value in ways_from(web, p, longest)
                   if isinstance(value, tuple)})


def closed_by_the_words(web, pairs):
    for p, q in pairs:
        if head(web[p]) != head(web[q]):
            return False
        for mine, yours in zip(values(web[p]), values(web[q])):
            linked = isinstance(mine, tuple) and isinstance(yours, tuple)
            if linked and (mine[1], yours[1]) not in pairs or not linked and mine != yours:
                return False
    return True


def rings(first, second):
    return beside(ring(first), ring(second))


SHARED = (("row", (("at", 1), ("at", 2))), ("row", (("at", 3), ("at", 3))), ("row", (("at", 3), ("at", 4))),
          ("text", "a"), ("text", "a"), ("text", "b"))


class AlikeTest(unittest.TestCase):
    def assert_alike(self, web, p, q, table):
        self.assertEqual(look_table(web, p, q), table)
        self.assertIsNone(parting_way(web, p, q))
        self.assertEqual(look_table(web, q, p), sorted([(b, a) for a, b in table]))
        self.assertIsNone(parting_way(web, q, p))
        self.assertIs(is_closed(web, table), True)

    def test_a_part_and_itself(self):
        for web in (EVERY_KIND, SHARED, ring(5), chain(60)):
            for k in range(len(web)):
                self.assert_alike(web, k, k, sorted([(part, part) for part in met(web, k)]))

    def test_parts_without_links(self):
        web = (("text", "a"), ("text", "a"), ("row", ()), ("row", ()), ("table", (("a", 1),)), ("table", (("a", 1),)),
               ("record", "dog", (("a", None),)), ("record", "dog", (("a", None),)))
        for k in range(0, 8, 2):
            self.assert_alike(web, k, k + 1, [(k, k + 1)])

    def test_shared_or_not_parts_look_alike(self):
        self.assert_alike(SHARED, 1, 2, [(1, 2), (3, 3), (3, 4)])
        self.assert_alike(SHARED, 3, 4, [(3, 4)])
        one = (("row", (("at", 1), ("at", 1))), ("row", (("at", 2),)), ("text", "a"))
        other = (("row", (("at", 1), ("at", 3))), ("row", (("at", 2),)), ("text", "a"), ("row", (("at", 4),)),
                 ("text", "a"))
        self.assert_alike(beside(one, other), 0, 3, [(0, 3), (1, 4), (1, 6), (2, 5), (2, 7)])

    def test_rings_of_unlike_lengths(self):
        self.assert_alike(rings(1, 3), 0, 1, [(0, 1), (0, 2), (0, 3)])
        self.assert_alike(rings(2, 3), 0, 2, [(a, b) for a in (0, 1) for b in (2, 3, 4)])
        self.assert_alike(rings(2, 4), 0, 2, [(0, 2), (0, 4), (1, 3), (1, 5)])
        self.assert_alike(rings(2, 4), 1, 2, [(0, 3), (0, 5), (1, 2), (1, 4)])
        self.assert_alike(rings(29, 31), 3, 40, [(a, b) for a in range(29) for b in range(29, 60)])

    def test_within_one_ring(self):
        self.assert_alike(ring(4), 0, 1, [(0, 1), (1, 2), (2, 3), (3, 0)])
        self.assert_alike(ring(4), 2, 0, [(0, 2), (1, 3), (2, 0), (3, 1)])

    def test_rising_and_each_once(self):
        for web in (rings(4, 6), SHARED, chain(9), beside(SHARED, SHARED)):
            for p in range(len(web)):
                for q in range(len(web)):
                    table = look_table(web, p, q)
                    if table is not None:
                        self.assertTrue(all([ahead < pair for ahead, pair in zip(table, table[1:])]))
                        self.assertTrue(all([type(pair) is tuple for pair in table]))


class PartingTest(unittest.TestCase):
    def assert_parted(self, web, p, q, way):
        for mine, yours in ((p, q), (q, p)):
            with self.subTest(web=web, mine=mine, yours=yours):
                self.assertEqual(parting_way(web, mine, yours), way)
                self.assertIs(type(parting_way(web, mine, yours)), list)
                self.assertIsNone(look_table(web, mine, yours))

    def test_unlike_heads_part_without_places(self):
        web = (("text", "a"), ("text", "b"), ("row", ()), ("row", (1,)), ("table", ()), ("table", (("a", 1),)),
               ("table", (("b", 1),)), ("record", "dog", ()), ("record", "cat", ()), ("record", "dog", (("a", 1),)),
               ("table", (("a", 1), ("b", 1))), ("table", (("b", 1), ("a", 1))), ("row", (1, 1)))
        for p in range(len(web)):
            for q in range(p):
                self.assert_parted(web, p, q, [])

    def test_each_kind_of_value_beside_another(self):
        some = (None, 0, 1, -1, 10 ** 59, ("at", 0), ("at", 7))
        holders = tuple([("row", (5, value)) for value in some]) + (("text", "a"), ("text", "a"))
        for p in range(len(some)):
            for q in range(p):
                self.assert_parted(holders, p, q, [1])

    def test_links_to_unlike_heads(self):
        web = (("row", (1, ("at", 2))), ("row", (1, ("at", 3))), ("text", "a"), ("text", "b"))
        self.assert_parted(web, 0, 1, [1])
        named = (("record", "dog", (("a", ("at", 2)),)), ("record", "dog", (("a", ("at", 3)),)),
                 ("table", (("b", 1),)), ("table", (("c", 1),)))
        self.assert_parted(named, 0, 1, [0])

    def test_the_fewest_places_first(self):
        # Place 0 comes first as a list, but what is behind it parts with one place more.
        web = (("row", (("at", 2), 1)), ("row", (("at", 3), 2)), ("row", (8,)), ("row", (9,)))
        self.assert_parted(web, 0, 1, [1])
        deep = (("row", (("at", 2), ("at", 4))), ("row", (("at", 3), ("at", 5))), ("row", (("at", 6),)),
                ("row", (("at", 7),)), ("row", (1,)), ("row", (2,)), ("row", (3,)), ("row", (4,)))
        self.assert_parted(deep, 0, 1, [1, 0])

    def test_then_the_first_as_a_list(self):
        self.assert_parted((("row", (5, 6, 7)), ("row", (5, 7, 6))), 0, 1, [1])
        web = (("row", (("at", 2), ("at", 4))), ("row", (("at", 3), ("at", 5))), ("row", (0, 1)), ("row", (0, 2)),
               ("row", (3, 0)), ("row", (4, 0)))
        self.assert_parted(web, 0, 1, [0, 1])

    def test_what_is_unlike_behind_a_pair_met_before(self):
        web = (("row", (("at", 0), ("at", 0), 1)), ("row", (("at", 1), ("at", 1), 2)))
        self.assert_parted(web, 0, 1, [2])
        turned = (("row", (("at", 2), ("at", 0))), ("row", (("at", 3), ("at", 1))), ("row", (("at", 0), 1)),
                  ("row", (("at", 1), 2)))
        self.assert_parted(turned, 0, 1, [0, 1])

    def test_deep_in_chains_and_rings(self):
        plain = tuple([("row", (("at", k + 1),)) for k in range(59)]) + (("text", "end"),)
        for k in range(59):
            self.assert_parted(plain, k, k + 1, [0] * (58 - k))
        self.assert_parted(plain, 10, 30, [0] * 29)
        marked = tuple([("row", (("at", (k + 1) % 30), 1 if k == 29 else 0)) for k in range(30)])
        self.assert_parted(marked, 0, 1, [0] * 28 + [1])
        self.assert_parted(beside(marked, ring(5)), 0, 32, [])

    def test_rings_of_unlike_lengths_with_a_mark_in_each(self):
        def marked(count):
            return tuple([("row", (("at", (k + 1) % count), 1 if k == 0 else 0)) for k in range(count)])

        self.assert_parted(beside(marked(29), marked(31)), 0, 29, [0] * 29 + [1])
        self.assertIsNone(parting_way(beside(marked(7), marked(7)), 3, 10))

    def test_against_the_words(self):
        parted = alike = 0
        for web in plain_webs(250, 4):
            for p in range(len(web)):
                for q in range(len(web)):
                    way = parting_by_the_words(web, p, q, len(web) + 1)
                    with self.subTest(web=web, p=p, q=q):
                        self.assertEqual(parting_way(web, p, q), way)
                        self.assertEqual(look_table(web, p, q) is None, way is not None)
                    parted += way is not None
                    alike += way is None and p != q
        self.assertGreater(min(parted, alike), 50)

    def test_tables_against_the_words(self):
        for web in plain_webs(150, 3):
            for p in range(len(web)):
                for q in range(len(web)):
                    if look_table(web, p, q) is not None:
                        self.assertEqual(look_table(web, p, q), table_by_the_words(web, p, q, len(web) ** 2))


class ClosedTest(unittest.TestCase):
    def test_no_pairs(self):
        for web in (EVERY_KIND, ring(3), SHARED):
            self.assertIs(is_closed(web, []), True)

    def test_each_pair_is_needed(self):
        for web, p, q in ((rings(2, 3), 0, 2), (ring(4), 0, 1), (SHARED, 1, 2), (beside(SHARED, SHARED), 0, 6)):
            table = look_table(web, p, q)
            self.assertIs(is_closed(web, table), True)
            for number, pair in enumerate(table):
                if pair != (p, q):
                    self.assertIs(is_closed(web, table[:number] + table[number + 1:]), False, pair)
        self.assertIs(is_closed(ring(4), [(1, 2), (2, 3), (3, 0)]), False)
        # Nothing leads to the first pair here, so it may be left out.
        self.assertIs(is_closed(SHARED, [(3, 3), (3, 4)]), True)

    def test_a_pair_twice_and_in_another_order(self):
        table = look_table(rings(2, 3), 0, 2)
        self.assertIs(is_closed(rings(2, 3), table + table[:1]), True)
        self.assertIs(is_closed(rings(2, 3), table + table), True)
        self.assertIs(is_closed(rings(2, 3), list(reversed(table))), True)
        self.assertIs(is_closed(ring(4), [(1, 2), (1, 2), (2, 3), (3, 0)]), False)
        self.assertIs(is_closed(SHARED, [(3, 5), (3, 5)]), False)

    def test_pairs_of_parts_that_are_unlike(self):
        self.assertIs(is_closed(SHARED, [(3, 5)]), False)
        self.assertIs(is_closed(SHARED, [(3, 4), (3, 5)]), False)
        self.assertIs(is_closed((("row", (1,)), ("row", (2,))), [(0, 1)]), False)
        self.assertIs(is_closed((("row", (1,)), ("row", (None,))), [(0, 1)]), False)
        self.assertIs(is_closed((("row", (1,)), ("row", (("at", 1),))), [(0, 1), (1, 1)]), False)
        self.assertIs(is_closed((("row", (1,)), ("row", (1, 1))), [(0, 1)]), False)
        self.assertIs(is_closed((("row", ()), ("table", ())), [(0, 1)]), False)

    def test_each_pair_has_its_sides(self):
        web = rings(1, 2)
        self.assertIs(is_closed(web, [(0, 1), (0, 2)]), True)
        self.assertIs(is_closed(web, [(1, 0), (2, 0)]), True)
        self.assertIs(is_closed(web, [(0, 1), (2, 0)]), False)

    def test_numbers_of_no_parts(self):
        for pair in ((0, 1), (1, 0), (-1, 0), (0, -1), (-1, -1), (5, 5)):
            self.assertIs(is_closed((("text", "a"),), [pair]), False)
            self.assertIs(is_closed((("text", "a"),), [(0, 0), pair]), False)

    def test_long_lists(self):
        every = [(a, b) for a in range(60) for b in range(60)]
        self.assertIs(is_closed(ring(60), every), True)
        self.assertIs(is_closed(ring(60), every[1:]), False)
        self.assertIs(is_closed(chain(60), every), False)

    def test_against_the_words(self):
        maker = Maker(77)
        found = {True: 0, False: 0}
        for web in plain_webs(300, 3):
            every = [(a, b) for a in range(len(web)) for b in range(len(web))]
            for _ in range(8):
                pairs = maker.shuffled([pair for pair in every if maker.below(2)])
                told = is_closed(web, pairs)
                self.assertIs(told, closed_by_the_words(web, pairs))
                found[told] += len(pairs) > 1
        self.assertGreater(min(found.values()), 50)

    def test_two_parts_look_alike_just_where_a_closed_list_has_them(self):
        for web in plain_webs(60, 2) + plain_webs(12, 3):
            every = [(a, b) for a in range(len(web)) for b in range(len(web))]
            shown = set()
            for mask in range(1 << len(every)):
                pairs = [pair for number, pair in enumerate(every) if mask >> number & 1]
                if is_closed(web, pairs):
                    shown |= set(pairs)
            for p, q in every:
                self.assertEqual(look_table(web, p, q) is not None, (p, q) in shown)


class LeastTest(unittest.TestCase):
    def test_a_ring(self):
        for count in (1, 2, 7, 60):
            self.assertEqual(least(ring(count)), ring(1))

    def test_a_web_laid_out_several_times(self):
        one = (("row", (("at", 1), ("at", 1))), ("table", (("a", ("at", 2)), ("b", ("at", 0)))), ("text", "x"))
        # Each link of the web leads into the next laying, that of the last one into the first.
        for times in (2, 3, 20):
            count = 3 * times
            parts = []
            for turn in range(times):
                parts.extend([("row", (("at", 3 * turn + 1), ("at", (3 * turn + 4) % count))),
                              ("table", (("a", ("at", (3 * turn + 5) % count)), ("b", ("at", 3 * turn)))),
                              ("text", "x")])
            self.assertEqual(least(tuple(parts)), one)

    def test_made_webs_laid_out_several_times(self):
        maker = Maker(3)
        for web in made_webs(60) + plain_webs(100, 8):
            for times in (2, 5):
                self.assertEqual(least(laid_out(maker, web, times)), least(web))

    def test_shared_and_not_shared(self):
        web = (("row", (("at", 1), ("at", 2))), ("row", (5,)), ("row", (5,)))
        self.assertEqual(least(web), (("row", (("at", 1), ("at", 1))), ("row", (5,))))
        self.assertEqual(least(SHARED), (("row", (("at", 1), ("at", 1))), ("row", (("at", 2), ("at", 2))),
                                         ("text", "a")))

    def test_what_comes_is_drawn_from_the_root(self):
        # Part 2 looks as the root, so that what is met behind it alone is met behind the root, and later.
        web = (("row", (("at", 1), ("at", 3))), ("row", (("at", 2), ("at", 4))), ("row", (("at", 1), ("at", 3))),
               ("text", "y"), ("text", "w"))
        self.assertEqual(drawn(web), web)
        self.assertEqual(least(web), (("row", (("at", 1), ("at", 3))), ("row", (("at", 0), ("at", 2))), ("text", "w"),
                                      ("text", "y")))

    def test_what_parts_only_deep_stays_apart(self):
        web = (("row", (("at", 1), ("at", 2))), ("row", (("at", 3),)), ("row", (("at", 4),)), ("row", (1,)),
               ("row", (2,)))
        self.assertEqual(least(web), drawn(web))
        plain = tuple([("row", (("at", k + 1),)) for k in range(59)]) + (("text", "end"),)
        self.assertEqual(least(plain), plain)

    def test_a_web_all_of_whose_parts_look_unlike(self):
        for web in (chain(60), chain(2), (("text", "a"),), EVERY_KIND[:4]):
            self.assertEqual(least(web), drawn(web))
        turned = (("row", (("at", 2), ("at", 1))), ("text", "b"), ("text", "a"))
        self.assertEqual(least(turned), (("row", (("at", 1), ("at", 2))), ("text", "a"), ("text", "b")))

    def test_parts_that_are_not_met(self):
        self.assertEqual(least((("row", (1,)), ("row", (1,)), ("row", (("at", 3), ("at", 0))), ("text", "a"))),
                         (("row", (1,)),))
        self.assertEqual(least(EVERY_KIND), EVERY_KIND[:4])
        # The first part that looks so is not met, and what is met is numbered behind it.
        self.assertEqual(least((("row", (("at", 3), ("at", 2))), ("text", "a"), ("text", "a"), ("text", "a"))),
                         (("row", (("at", 1), ("at", 1))), ("text", "a")))

    def test_made_least_again(self):
        for web in made_webs(200) + plain_webs(200, 8) + [SHARED, ring(60)]:
            once = least(web)
            self.assertEqual(least(once), once)
            self.assertEqual(drawn(once), once)
            self.assertIs(is_web(once), True)

    def test_no_two_of_its_parts_look_alike_and_its_root_looks_as_before(self):
        smaller = 0
        maker = Maker(9)
        for web in made_webs(150) + plain_webs(200, 8) + [laid_out(maker, web, 3) for web in plain_webs(60, 5)]:
            out = least(web)
            for p in range(len(out)):
                for q in range(p):
                    self.assertIsNotNone(parting_way(out, p, q))
            self.assertIsNone(parting_way(beside(web, out), 0, len(web)))
            smaller += len(out) < len(met(web))
        self.assertGreater(smaller, 50)

    def test_webs_beside_each_other_have_equal_least_webs_just_where_their_roots_look_alike(self):
        webs = plain_webs(40, 4) + [SHARED, ring(1), ring(4), rings(2, 5), (("row", (("at", 1),)), ("row", (("at", 1),)))]
        alike = 0
        for one in webs:
            for other in webs:
                looks = parting_way(beside(one, other), 0, len(one)) is None
                self.assertEqual(least(one) == least(other), looks)
                alike += looks and one != other
        self.assertGreater(alike, 20)

    def test_numbered_otherwise(self):
        maker = Maker(5)
        for web in plain_webs(100, 8):
            numbers = [0] + maker.shuffled(range(1, len(web)))
            self.assertEqual(least(renumbered(web, numbers)), least(web))


class StaysTest(unittest.TestCase):
    def test_what_is_handed_in_stays(self):
        web = copy.deepcopy(SHARED)
        pairs = [(3, 4), (1, 2), (3, 3), (3, 4)]
        look_table(web, 1, 2), parting_way(web, 0, 1), least(web), is_closed(web, pairs)
        self.assertEqual(web, SHARED)
        self.assertEqual(pairs, [(3, 4), (1, 2), (3, 3), (3, 4)])

    def test_what_is_told_is_the_askers_own(self):
        table = look_table(SHARED, 1, 2)
        table.append((9, 9))
        table.pop(0)
        self.assertEqual(look_table(SHARED, 1, 2), [(1, 2), (3, 3), (3, 4)])
        web = (("row", (5, 6)), ("row", (5, 7)), ("text", "a"))
        for p, q, kept in ((0, 1, [1]), (0, 2, [])):
            way = parting_way(web, p, q)
            way.append(9)
            self.assertEqual(parting_way(web, p, q), kept)

    def test_asked_again_the_same_is_told(self):
        for web in plain_webs(40, 5):
            again = copy.deepcopy(web)
            self.assertEqual(least(web), least(again))
            for p in range(len(web)):
                self.assertEqual(look_table(web, p, 0), look_table(again, p, 0))
                self.assertEqual(parting_way(web, p, 0), parting_way(again, p, 0))

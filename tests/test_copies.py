import copy
import unittest

from graphpack.copies import copied, put, shallow
from graphpack.errors import NoPlace, NoValue, TooMany, WebError
from graphpack.looks import parting_way
from graphpack.webs import drawn, is_web, met, values, with_values
from tests.samples import EVERY_KIND, Hostile, Maker, chain, made_webs, plain_webs, ring

FAR = 10 ** 59

# The root holds one text twice, and goes round with part 2.
KNOT = (("row", (("at", 1), ("at", 2), ("at", 1), 5)), ("text", "a"), ("table", (("a", ("at", 0)), ("b", ("at", 3)))),
        ("record", "dog", (("a", None), ("b", ("at", 3)))), ("text", "unmet"))


NO_VALUES = (True, False, "", "a", "nil", 1.0, float("nan"), b"a", [], ["at", 0], (), ("at",), ("at", -1), ("at", True),
             ("at", None), ("at", "0"), ("at", 0.0), ("at", 0, 0), ("to", 0), (0, "at"), ("row", ()), {}, {"at": 0},
             set(), object(), len, int, Ellipsis, Hostile(), ("at", Hostile()), (Hostile(), 0), ("at", ("at", 0)))


class PutTest(unittest.TestCase):
    def assert_refused(self, refusal, web, k, place, value):
        with self.assertRaises(WebError) as caught:
            put(web, k, place, value)
        self.assertIs(type(caught.exception), refusal)

    def test_at_each_kind_of_part(self):
        self.assertEqual(put(KNOT, 0, 3, None), (("row", (("at", 1), ("at", 2), ("at", 1), None)),) + KNOT[1:])
        self.assertEqual(put(KNOT, 0, 0, ("at", 4)), (("row", (("at", 4), ("at", 2), ("at", 1), 5)),) + KNOT[1:])
        self.assertEqual(put(KNOT, 2, 1, -7), KNOT[:2] + (("table", (("a", ("at", 0)), ("b", -7))),) + KNOT[3:])
        self.assertEqual(put(KNOT, 3, 0, ("at", 3)),
                         KNOT[:3] + (("record", "dog", (("a", ("at", 3)), ("b", ("at", 3)))),) + KNOT[4:])

    def test_each_kind_of_value_at_each_place(self):
        for web in (KNOT, EVERY_KIND):
            for k in range(len(web)):
                for place in range(len(values(web[k]))):
                    for value in [None, 0, 1, -1, FAR, -FAR] + [("at", j) for j in range(len(web))]:
                        out = put(web, k, place, value)
                        self.assertEqual(values(out[k])[place], value)
                        self.assertEqual(put(out, k, place, values(web[k])[place]), web)
                        self.assertIs(is_web(out), True)

    def test_the_same_value_leaves_it_as_it_was(self):
        self.assertEqual(put(KNOT, 0, 3, 5), KNOT)

    def test_a_part_that_is_none(self):
        for k in (-1, -2, -5, -FAR, 5, 6, 60, FAR):
            for place in (-1, 0, 1, FAR):
                self.assert_refused(NoPlace, KNOT, k, place, 1)

    def test_a_place_that_is_none(self):
        for k, count in enumerate((4, 0, 2, 2, 0)):
            for place in (-1, -2, -count, -FAR, count, count + 1, FAR):
                if not 0 <= place < count:
                    self.assert_refused(NoPlace, KNOT, k, place, 1)
        self.assert_refused(NoPlace, (("row", ()),), 0, 0, 1)
        self.assert_refused(NoPlace, (("table", ()),), 0, 0, 1)
        self.assert_refused(NoPlace, (("record", "dog", ()),), 0, 0, 1)
        self.assert_refused(NoPlace, (("text", "abc"),), 0, 0, 1)

    def test_what_is_no_value(self):
        for thing in NO_VALUES:
            for k in (0, 2, 3):
                self.assert_refused(NoValue, KNOT, k, 0, thing)

    def test_a_link_that_leads_to_no_part(self):
        for j in (5, 6, 60, FAR):
            for k in (0, 2, 3):
                self.assert_refused(NoValue, KNOT, k, 1, ("at", j))
        self.assertEqual(values(put(KNOT, 0, 1, ("at", 4))[0])[1], ("at", 4))
        self.assert_refused(NoValue, (("row", (1,)),), 0, 0, ("at", 1))

    def test_which_refusal_comes_first(self):
        for thing in NO_VALUES + (("at", 5), ("at", FAR)):
            for k, place in ((-1, 0), (5, 0), (0, 4), (0, -1), (1, 0), (-1, -1), (9, 9)):
                self.assert_refused(NoPlace, KNOT, k, place, thing)

    def test_beyond_the_bounds_of_webs_nothing_is_refused(self):
        wide = (("row", tuple(range(13))),) + (("text", "a"),) * 61
        self.assertEqual(put(wide, 0, 12, ("at", 61))[0], ("row", tuple(range(12)) + (("at", 61),)))

    def test_the_web_that_is_handed_in_stays(self):
        web = copy.deepcopy(KNOT)
        put(web, 0, 0, None)
        self.assert_refused(NoPlace, web, 0, 4, 1)
        self.assert_refused(NoValue, web, 0, 0, "a")
        self.assertEqual(web, KNOT)
        self.assertEqual(put(web, 0, 0, None), put(web, 0, 0, None))


def copied_by_the_words(web, k, kept):
    """The copy as the document says it: a walk that calls itself, and goes into no kept part."""
    if k in kept:
        return (web, k)
    order = []

    def go(part):
        order.append(part)
        for value in values(web[part]):
            if isinstance(value, tuple) and value[1] not in kept and value[1] not in order:
                go(value[1])

    go(k)

    def turned(value):
        if isinstance(value, tuple) and value[1] not in kept:
            return ("at", len(web) + order.index(value[1]))
        return value

    new = [with_values(web[part], [turned(value) for value in values(web[part])]) for part in order]
    return (web + tuple(new), len(web))


class CopiedTest(unittest.TestCase):
    def test_a_part_alone(self):
        self.assertEqual(copied(KNOT, 1), (KNOT + (("text", "a"),), 5))
        self.assertEqual(copied(KNOT, 4), (KNOT + (("text", "unmet"),), 5))
        self.assertEqual(copied((("row", (1, None)),), 0), ((("row", (1, None)),) * 2, 1))

    def test_shared_parts_are_copied_once(self):
        told = copied(KNOT, 0)
        self.assertEqual(told, (KNOT + (
            ("row", (("at", 6), ("at", 7), ("at", 6), 5)), ("text", "a"),
            ("table", (("a", ("at", 5)), ("b", ("at", 8)))), ("record", "dog", (("a", None), ("b", ("at", 8))))), 5))

    def test_in_the_order_in_which_they_are_met(self):
        self.assertEqual(copied(KNOT, 2), (KNOT + (
            ("table", (("a", ("at", 6)), ("b", ("at", 8)))), ("row", (("at", 7), ("at", 5), ("at", 7), 5)),
            ("text", "a"), ("record", "dog", (("a", None), ("b", ("at", 8))))), 5))

    def test_rings(self):
        self.assertEqual(copied(ring(1), 0), (ring(1) + (("row", (("at", 1),)),), 1))
        self.assertEqual(copied(ring(3), 2), (ring(3) + (("row", (("at", 4),)), ("row", (("at", 5),)),
                                                         ("row", (("at", 3),))), 3))

    def test_kept_parts(self):
        self.assertEqual(copied(KNOT, 0, [1]), (KNOT + (
            ("row", (("at", 1), ("at", 6), ("at", 1), 5)), ("table", (("a", ("at", 5)), ("b", ("at", 7)))),
            ("record", "dog", (("a", None), ("b", ("at", 7))))), 5))
        # What is behind a kept part alone is not met.
        self.assertEqual(copied(KNOT, 0, [2]), (KNOT + (("row", (("at", 6), ("at", 2), ("at", 6), 5)), ("text", "a")), 5))
        self.assertEqual(copied(KNOT, 2, [0]), (KNOT + (("table", (("a", ("at", 0)), ("b", ("at", 6)))),
                                                        ("record", "dog", (("a", None), ("b", ("at", 6))))), 5))
        self.assertEqual(copied(ring(3), 0, [2]), (ring(3) + (("row", (("at", 4),)), ("row", (("at", 2),))), 3))

    def test_what_is_met_behind_a_kept_part_by_another_way(self):
        web = (("row", (("at", 1), ("at", 2))), ("row", (("at", 2),)), ("text", "a"))
        self.assertEqual(copied(web, 0, [1]), (web + (("row", (("at", 1), ("at", 4))), ("text", "a")), 3))

    def test_kept_parts_that_are_not_met_and_none(self):
        for kept in ([], None, [4], [4, 4]):
            self.assertEqual(copied(KNOT, 0, kept), copied(KNOT, 0))
            self.assertEqual(copied(KNOT, 0, kept=kept), copied(KNOT, 0))

    def test_some_kept_twice(self):
        self.assertEqual(copied(KNOT, 0, [2, 1, 2, 2]), copied(KNOT, 0, [1, 2]))
        self.assertEqual(copied(KNOT, 0, [1, 1]), copied(KNOT, 0, [1]))
        self.assertEqual(copied(KNOT, 0, [1] * 4000), copied(KNOT, 0, [1]))

    def test_a_kept_parts_copy_is_itself(self):
        for k in range(len(KNOT)):
            for kept in ([k], [k, k], [0, 1, 2, 3, 4], [4, k, 0]):
                self.assertEqual(copied(KNOT, k, kept), (KNOT, k))

    def test_exactly_sixty_and_sixty_one(self):
        self.assertEqual(len(copied(ring(30), 7)[0]), 60)
        self.assertEqual(len(copied(chain(59), 58)[0]), 60)
        self.assertEqual(len(copied(chain(40), 20)[0]), 60)
        self.assertEqual(copied(chain(60), 3, [3]), (chain(60), 3))
        self.assertEqual(len(copied(ring(59), 5, [6])[0]), 60)
        self.assertEqual(len(copied(chain(41), 20, [39])[0]), 60)
        for web, k, kept in ((ring(31), 0, []), (chain(60), 59, []), (chain(41), 21, []), (chain(41), 20, [40]), (chain(59), 57, []),
                             (ring(59), 5, [7]), (ring(60), 5, [6]), (ring(60), 0, [])):
            with self.subTest(count=len(web), k=k, kept=kept):
                with self.assertRaises(TooMany):
                    copied(web, k, kept)

    def test_against_the_words(self):
        maker = Maker(61)
        for web in made_webs(300):
            for k in range(len(web)):
                kept = [part for part in list(range(len(web))) * 2 if maker.below(5) == 0]
                for some in ([], kept):
                    with self.subTest(web=web, k=k, kept=some):
                        self.assertEqual(copied(web, k, some), copied_by_the_words(web, k, some))
                        self.assertIs(is_web(copied(web, k, some)[0]), True)

    def test_kinds(self):
        told = copied(KNOT, 0, [1])
        self.assertEqual([type(thing) for thing in (told, told[0], told[1])], [tuple, tuple, int])


class ShallowTest(unittest.TestCase):
    def test_shallow_copies(self):
        self.assertEqual(shallow(KNOT, 0), (KNOT + KNOT[:1], 5))
        self.assertEqual(shallow(KNOT, 1), (KNOT + KNOT[1:2], 5))
        self.assertEqual(shallow(KNOT, 2), (KNOT + KNOT[2:3], 5))

    def test_what_leads_to_the_part_itself_leads_to_the_copy(self):
        self.assertEqual(shallow(KNOT, 3), (KNOT + (("record", "dog", (("a", None), ("b", ("at", 5)))),), 5))
        self.assertEqual(shallow(ring(1), 0), (ring(1) + (("row", (("at", 1),)),), 1))
        self.assertEqual(shallow(ring(2), 0), (ring(2) + ring(2)[:1], 2))

    def test_all_others_kept(self):
        for web in made_webs(60):
            for k in range(len(web)):
                kept = [part for part in range(len(web)) if part != k]
                self.assertEqual(shallow(web, k), copied(web, k, kept))
                self.assertEqual(shallow(web, k), copied_by_the_words(web, k, kept))

    def test_exactly_sixty_and_sixty_one(self):
        self.assertEqual(shallow(chain(59), 0), (chain(59) + chain(59)[:1], 59))
        with self.assertRaises(TooMany):
            shallow(chain(60), 0)


class AloneTest(unittest.TestCase):
    """What a copy shares with the old web, and what it doesn't."""

    def each_copy(self):
        maker = Maker(71)
        for web in made_webs(40) + plain_webs(80, 5) + [KNOT, ring(4)]:
            for k in range(len(web)):
                yield web, k, [], copied(web, k)
                kept = [part for part in range(len(web)) if maker.below(3) == 0]
                yield web, k, kept, copied(web, k, kept)
                yield web, k, [part for part in range(len(web)) if part != k], shallow(web, k)

    def test_the_copy_looks_as_the_part_does(self):
        for web, k, kept, (out, number) in self.each_copy():
            self.assertIsNone(parting_way(out, k, number))
            self.assertEqual(out[:len(web)], web)
            if not kept:
                self.assertEqual(drawn(out, number), drawn(web, k))
                self.assertTrue(min(met(out, number)) >= len(web))

    def test_what_is_put_elsewhere_leaves_what_is_drawn_from_the_copy(self):
        asked = 0
        for web, k, kept, (out, number) in self.each_copy():
            was = drawn(out, number)
            behind = met(out, number)
            for part in range(len(out)):
                for place in range(len(values(out[part]))):
                    if part not in behind:
                        for value in (77, None, ("at", number)):
                            self.assertEqual(drawn(put(out, part, place, value), number), was)
                            asked += 1
                    else:
                        self.assertNotEqual(drawn(put(out, part, place, 77), number), was)
        self.assertGreater(asked, 1000)

    def test_what_is_put_into_a_new_part_leaves_what_is_drawn_from_the_old_ones(self):
        for web, k, kept, (out, number) in self.each_copy():
            for part in range(len(web), len(out)):
                for place in range(len(values(out[part]))):
                    changed = put(out, part, place, 77)
                    for old in range(len(web)):
                        self.assertEqual(drawn(changed, old), drawn(web, old))

    def test_what_is_put_into_a_part_that_is_not_kept_leaves_a_copy_that_keeps_nothing_behind_it(self):
        web = (("row", (("at", 1), ("at", 2))), ("row", (1,)), ("row", (2,)))
        out, number = copied(web, 0, [2])
        was = drawn(out, number)
        self.assertEqual(drawn(put(out, 1, 0, 9), number), was)
        self.assertNotEqual(drawn(put(out, 2, 0, 9), number), was)


class StaysTest(unittest.TestCase):
    def test_what_is_handed_in_stays(self):
        web = copy.deepcopy(KNOT)
        kept = [2, 1, 2]
        copied(web, 0, kept), copied(web, 2, kept), shallow(web, 0), copied(web, 0)
        with self.assertRaises(TooMany):
            copied(chain(60), 0, kept)
        self.assertEqual(web, KNOT)
        self.assertEqual(kept, [2, 1, 2])

    def test_what_is_done_later_to_what_was_handed_in_changes_nothing(self):
        kept = [2]
        told = copied(KNOT, 0, kept)
        kept.append(1)
        self.assertEqual(told, copied(KNOT, 0, [2]))
        self.assertEqual(copied(KNOT, 0), copied(KNOT, 0, []))

    def test_asked_again_the_same_is_told(self):
        for web in made_webs(40):
            again = copy.deepcopy(web)
            for k in range(len(web)):
                self.assertEqual(copied(web, k, [0]), copied(again, k, [0]))
                self.assertEqual(shallow(web, k), shallow(again, k))
                self.assertEqual(copied(web, k), copied(again, k))

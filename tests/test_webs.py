import copy
import string
import unittest

from graphpack.webs import drawn, head, is_name, is_part, is_value, is_web, is_word, met, values, with_values
from tests.samples import EVERY_KIND, Hostile, chain, classes_web, made_webs, names_web, ring

NAME_SIGNS = string.ascii_lowercase + string.digits
TWELVE = tuple([(name, 1) for name in "abcdefghijkl"])
THIRTEEN = TWELVE + (("m", 1),)


class Agreeing:
    """Says of whatever thing that it is equal to it."""

    def __eq__(self, other):
        return True

    __hash__ = None


def foreign_things():
    knot = []
    knot.append(knot)
    deep = ()
    for _ in range(5000):
        deep = (deep,)
    return [
        Hostile(), Agreeing(), object(), knot, deep, (deep, deep), (knot, knot), Ellipsis, NotImplemented, str, len,
        1.0, float("nan"), float("inf"), 1j, b"", b"abc", bytearray(b"a"), [], {}, {"a": 1}, set(), frozenset((1,)),
        (), (1,), ((),), range(3), iter(()), lambda: None, True, False, "\n", "A", "\ud800", "\u0661", "_", "-",
        "at", "text", "row", [("row", ())], {0: ("row", ())}, (("row", ()), None), ("at",), "a" * 100000,
        (("row", ()),) * 100000, ("row", (1,) * 100000), ("row", [Hostile()]),
    ]


def label(thing):
    try:
        return repr(thing)[:80]
    except RecursionError:
        return "too deep to be shown"


class Answers(unittest.TestCase):
    def assert_all(self, asked, things, answer):
        for thing in things:
            with self.subTest(asked=asked.__name__, thing=label(thing)):
                self.assertIs(asked(thing), answer)


class NamesAndWordsTest(Answers):
    def test_names(self):
        self.assert_all(is_name, ["a", "0", "z", "9", "dog", "abcdefgh", "00000000", "a1b2c3d4", "12345678"], True)
        self.assert_all(is_name, ["", "abcdefghi", "000000000", "a b", " a", "a ", " ", "Dog", "do-g", "a_b", "a.b"],
                        False)
        self.assert_all(is_name, [None, 1, 0, True, ["a"], ("a",), ("a", "b"), {"a": 1}, b"a"], False)

    def test_each_sign_of_a_name(self):
        for number in range(0x250):
            sign = chr(number)
            self.assert_all(is_name, [sign, "a" + sign, sign + "a"], sign in NAME_SIGNS)

    def test_figures_and_letters_of_other_scripts_are_none(self):
        strange = ["\u0661", "\uff11", "\uff41", "\u00b2", "\u0430", "\U0001d7ce"]
        self.assert_all(is_name, strange, False)
        self.assert_all(is_word, strange, False)

    def test_words(self):
        self.assert_all(is_word, ["", " ", "a", "ab c", "  9  ", "a" * 20, " " * 20, "abcdefghijklmnopqrst"], True)
        self.assert_all(is_word, ["a" * 21, " " * 21, "A", "a,b", "it's", "a\n", "\t", "a_b"], False)
        self.assert_all(is_word, [None, 1, True, [], ["a"], (), ("a",), b"", {}], False)

    def test_each_sign_of_a_word(self):
        for number in range(0x250):
            sign = chr(number)
            self.assert_all(is_word, [sign, "a" + sign, sign + "a"], sign in NAME_SIGNS + " ")


class ValuesTest(Answers):
    def test_values(self):
        self.assert_all(is_value, [None, 0, 1, -1, 10 ** 59, -(10 ** 60) + 1, ("at", 0), ("at", 59), ("at", 60),
                                   ("at", 10 ** 30)], True)

    def test_truths_are_no_whole_numbers(self):
        self.assert_all(is_value, [True, False, ("at", True), ("at", False)], False)

    def test_what_is_nearly_a_link(self):
        self.assert_all(is_value, [("at", -1), ("to", 0), ("At", 0), ("", 0), ("at",), ("at", 0, 0), ("at", None),
                                   ("at", "0"), ("at", 0.0), ("at", ("at", 0)), ["at", 0], [0], (0, "at"), (0, 0),
                                   ("a", "t"), "at", ()], False)

    def test_what_is_no_value(self):
        self.assert_all(is_value, ["", "a", "1", 1.0, [], (), {}, ("row", ()), ("text", "a"), b"at"], False)


class PartsTest(Answers):
    def test_parts(self):
        self.assert_all(is_part, EVERY_KIND, True)
        self.assert_all(is_part, [("text", "a" * 20), ("row", (("at", 99),)), ("record", "abcdefgh", (("a", None),))],
                        True)

    def test_how_many_values(self):
        self.assert_all(is_part, [("row", ()), ("row", (1,) * 12), ("table", ()), ("table", TWELVE),
                                  ("record", "a", ()), ("record", "a", TWELVE)], True)
        self.assert_all(is_part, [("row", (1,) * 13), ("table", THIRTEEN), ("record", "a", THIRTEEN)], False)

    def test_wrong_texts(self):
        self.assert_all(is_part, [("text", "a" * 21), ("text", "A"), ("text", None), ("text", 1), ("text",),
                                  ("text", "a", "b"), ("text", ("a",)), ["text", "a"], ("text", ["a"])], False)

    def test_wrong_rows(self):
        self.assert_all(is_part, [("row", []), ("row", [1]), ["row", ()], ("row", ("a",)), ("row", (True,)),
                                  ("row", (1, False)), ("row", (["at", 0],)), ("row", (("at", -1),)), ("row",),
                                  ("row", (), ()), ("row", None), ("row", 1), ("row", ""), ("row", ((),)),
                                  ("row", (("row", ()),))], False)

    def wrong_pairs(self):
        return [[], [("a", 1)], (["a", 1],), (("a",),), (("a", 1, 1),), (("", 1),), (("abcdefghi", 1),), (("A", 1),),
                ((1, 1),), (("a", True),), (("a", "b"),), (("a", ["at", 0]),), ("a1",), ("ab",), (None,), None, "a",
                (("a", 1), ("a", 1)), (("a", 1), ("b", 2), ("a", 3)), (("a", 1), ("b", ("at", -1))), {"a": 1}]

    def test_wrong_tables_and_records(self):
        for pairs in self.wrong_pairs():
            self.assert_all(is_part, [("table", pairs), ("record", "dog", pairs)], False)

    def test_wrong_tuples_of_pairs(self):
        pairs = (("a", 1),)
        self.assert_all(is_part, [("table", "dog", pairs), ("table", pairs, pairs), ["table", pairs], ("table",),
                                  ("record", pairs), ("record", pairs, "dog"), ["record", "dog", pairs],
                                  ("record", "dog"), ("record", "dog", pairs, pairs), ("record", "", pairs),
                                  ("record", "abcdefghi", pairs), ("record", "Dog", pairs), ("record", None, pairs),
                                  ("record", 1, pairs), ("record", ["dog"], pairs)], False)

    def test_a_class_may_be_called_like_a_pair(self):
        self.assert_all(is_part, [("record", "a", (("a", 1),))], True)

    def test_other_marks(self):
        self.assert_all(is_part, [("Text", "a"), ("rows", ()), ("", ()), (None, ()), ("at", 0), (), ("list", ()),
                                  ("tables", ()), ("records", "a", ()), (0, ())], False)


class WebsTest(Answers):
    def test_how_many_parts(self):
        part = ("row", ())
        self.assert_all(is_web, [(part,), (part,) * 2, (part,) * 59, (part,) * 60, EVERY_KIND, chain(60), ring(60)],
                        True)
        self.assert_all(is_web, [(), (part,) * 61, chain(61), ring(61)], False)

    def test_where_links_lead(self):
        for count in (1, 2, 60):
            for holder in (("row", (("at", count - 1),)), ("table", (("a", ("at", count - 1)),)),
                           ("record", "a", (("b", ("at", count - 1)),))):
                self.assert_all(is_web, [(holder,) + (("row", ()),) * (count - 1)], True)
            for holder in (("row", (None, ("at", count))), ("table", (("a", 1), ("b", ("at", count)))),
                           ("record", "a", (("b", ("at", count)),)), ("row", (("at", 10 ** 40),))):
                filling = (("row", ()),) * (count - 1)
                self.assert_all(is_web, [(holder,) + filling, filling + (holder,)], False)

    def test_how_many_names(self):
        self.assert_all(is_web, [names_web(60), classes_web(60), names_web(2)], True)
        self.assert_all(is_web, [names_web(61), classes_web(60) + (("table", (("x", 1),)),)], False)

    def test_classes_count_among_the_names(self):
        sixty = tuple([("table", tuple([("n" + str(k + j), None) for j in range(12)])) for k in range(0, 60, 12)])
        self.assert_all(is_web, [sixty, sixty + (("record", "n7", ()),), sixty + sixty], True)
        self.assert_all(is_web, [sixty + (("record", "n60", ()),), sixty + (("table", (("n60", None),)),)], False)

    def test_words_hold_no_names(self):
        self.assert_all(is_web, [names_web(60) + (("text", "abc"), ("row", (1, None))),
                                 classes_web(59) + (("text", "x y z"),)], True)

    def test_what_is_no_web(self):
        part = ("row", ())
        self.assert_all(is_web, [[part], [], part, (part, None), (part, ()), (None,), (1,), None, 1, True, "", "a",
                                 (list(part),), (("row", []),), (part, ("row", (True,))), {0: part}, ((part,),)],
                        False)


class WhateverThingTest(Answers):
    def test_true_or_false_is_told(self):
        for asked in (is_name, is_word, is_value, is_part, is_web):
            for thing in foreign_things():
                self.assertIsInstance(asked(thing), bool)

    def test_foreign_things_within(self):
        for thing in foreign_things():
            # Texts stand rightly in some of these places.
            if isinstance(thing, str):
                continue
            self.assert_all(is_value, [("at", thing), (thing, 0), (thing, thing), ("at", 0, thing)], False)
            self.assert_all(is_part, [(thing, ()), (thing, "a"), (thing, "a", ()), ("text", ("a", thing)),
                                      ("table", ((thing, 1, 1),)), ("table", (("a", 1), thing)),
                                      ("record", (thing,), ()), ("record", "a", (thing, ("a", 1)))], False)
            self.assert_all(is_web, [[thing], (("row", ()), ("row", thing, thing)), (("row", ((thing, 0),)),)], False)

    def test_foreign_things_as_a_part_of_each_place(self):
        for thing in (Hostile(), Agreeing(), 1.0, b"a", [], {}, object()):
            self.assert_all(is_part, [("text", thing), ("row", thing), ("row", (thing,)), ("table", thing),
                                      ("table", (thing,)), ("table", ((thing, 1),)), ("table", (("a", thing),)),
                                      ("record", thing, ()), ("record", "a", thing), ("record", "a", (("a", thing),))],
                            False)
            self.assert_all(is_web, [thing, (thing,), (("row", ()), thing), (("row", (("at", thing),)),)], False)


class HeadsTest(unittest.TestCase):
    def test_heads(self):
        self.assertEqual(head(("text", "ab c")), ("text", "ab c"))
        self.assertEqual(head(("text", "")), ("text", ""))
        self.assertEqual(head(("row", ())), ("row", 0))
        self.assertEqual(head(("row", (None, 5, ("at", 3)))), ("row", 3))
        self.assertEqual(head(("row", (1,) * 12)), ("row", 12))
        self.assertEqual(head(("table", ())), ("table", ()))
        self.assertEqual(head(("table", (("b", 1), ("a", None)))), ("table", ("b", "a")))
        self.assertEqual(head(("record", "dog", ())), ("record", "dog", ()))
        self.assertEqual(head(("record", "dog", (("b", ("at", 0)), ("a", 1)))), ("record", "dog", ("b", "a")))

    def test_values(self):
        self.assertEqual(values(("text", "ab c")), [])
        self.assertEqual(values(("row", ())), [])
        self.assertEqual(values(("row", (None, -5, ("at", 3), None))), [None, -5, ("at", 3), None])
        self.assertEqual(values(("table", ())), [])
        self.assertEqual(values(("table", (("b", 1), ("a", None)))), [1, None])
        self.assertEqual(values(("record", "dog", (("b", ("at", 0)), ("a", 1)))), [("at", 0), 1])

    def test_with_its_own_values(self):
        for part in EVERY_KIND + (("row", (1,) * 12), ("table", TWELVE), ("record", "a", TWELVE)):
            with self.subTest(part):
                self.assertEqual(with_values(part, values(part)), part)

    def test_with_other_values(self):
        some = [("at", 4), None]
        self.assertEqual(with_values(("row", (1, 2)), some), ("row", (("at", 4), None)))
        self.assertEqual(with_values(("table", (("b", 1), ("a", 2))), some), ("table", (("b", ("at", 4)), ("a", None))))
        self.assertEqual(with_values(("record", "dog", (("b", 1), ("a", 2))), some),
                         ("record", "dog", (("b", ("at", 4)), ("a", None))))
        self.assertEqual(with_values(("text", "a"), []), ("text", "a"))

    def test_with_other_values_the_head_stays(self):
        for web in made_webs(100):
            for part in web:
                some = [7 for _ in values(part)]
                self.assertEqual(head(with_values(part, some)), head(part))
                self.assertEqual(values(with_values(part, some)), some)
                self.assertIs(is_part(with_values(part, some)), True)

    def test_kinds(self):
        for part in EVERY_KIND:
            self.assertIsInstance(head(part), tuple)
            self.assertIsInstance(values(part), list)
            self.assertIsInstance(with_values(part, values(part)), tuple)


def met_by_the_words(web, k):
    """What is met, as the document says it: a walk that calls itself."""
    order = []

    def go(part):
        order.append(part)
        for value in values(web[part]):
            if isinstance(value, tuple) and value[1] not in order:
                go(value[1])

    go(k)
    return order


class MetTest(unittest.TestCase):
    def test_alone(self):
        for part in (("text", "a"), ("row", (1, None)), ("row", (("at", 0), ("at", 0)))):
            self.assertEqual(met((part,)), [0])
            self.assertEqual(drawn((part,)), (part,))

    def test_value_by_value_and_deep_ahead_of_wide(self):
        web = (("row", (("at", 3), ("at", 1))), ("text", "one"), ("text", "two"),
               ("table", (("b", ("at", 4)), ("a", ("at", 2)))), ("record", "dog", (("x", ("at", 1)),)))
        self.assertEqual(met(web), [0, 3, 4, 1, 2])
        self.assertEqual(met(web, 3), [3, 4, 1, 2])
        self.assertEqual(met(web, 4), [4, 1])
        self.assertEqual(met(web, 2), [2])

    def test_a_shared_part_is_met_once_and_where_it_is_first_come_to(self):
        web = (("row", (("at", 1), ("at", 2), ("at", 1))), ("row", (("at", 2),)), ("text", "a"))
        self.assertEqual(met(web), [0, 1, 2])
        turned = (("row", (("at", 2), ("at", 1))), ("row", (("at", 3),)), ("row", (("at", 1), ("at", 3))), ("row", ()))
        self.assertEqual(met(turned), [0, 2, 1, 3])

    def test_a_link_met_deeper_is_not_met_at_its_own_place(self):
        web = (("row", (("at", 1), ("at", 2))), ("row", (("at", 3), ("at", 2))), ("text", "c"), ("text", "d"))
        self.assertEqual(met(web), [0, 1, 3, 2])

    def test_rings(self):
        self.assertEqual(met(ring(1)), [0])
        self.assertEqual(met(ring(3)), [0, 1, 2])
        self.assertEqual(met(ring(3), 2), [2, 0, 1])
        self.assertEqual(met(ring(60), 30), list(range(30, 60)) + list(range(30)))
        both = (("row", (("at", 2), ("at", 1))), ("row", (("at", 0),)), ("row", (("at", 1), ("at", 2))))
        self.assertEqual(met(both), [0, 2, 1])

    def test_what_is_not_met(self):
        web = (("row", (1,)), ("row", (("at", 0), ("at", 2))), ("text", "a"))
        self.assertEqual(met(web), [0])
        self.assertEqual(met(web, 1), [1, 0, 2])
        self.assertEqual(drawn(web), (("row", (1,)),))

    def test_numbers_are_no_links(self):
        self.assertEqual(met((("row", (1, 2, None)), ("row", ()), ("row", ()))), [0])

    def test_sixty_deep_and_beyond(self):
        for count in (60, 61, 300):
            self.assertEqual(met(chain(count)), list(range(count)))
            self.assertEqual(drawn(chain(count)), chain(count))
            self.assertEqual(met(chain(count), 7), list(range(7, count)))

    def test_against_the_words(self):
        for web in made_webs(400):
            for k in range(len(web)):
                with self.subTest(web=web, k=k):
                    self.assertEqual(met(web, k), met_by_the_words(web, k))


class DrawnTest(unittest.TestCase):
    def test_links_go_with_the_numbers(self):
        web = (("row", (("at", 3), 3, ("at", 1))), ("text", "one"), ("text", "two"),
               ("table", (("b", ("at", 0)), ("a", ("at", 2)))))
        self.assertEqual(drawn(web), (("row", (("at", 1), 3, ("at", 3))), ("table", (("b", ("at", 0)), ("a", ("at", 2)))),
                                      ("text", "two"), ("text", "one")))
        self.assertEqual(drawn(web, 3), (("table", (("b", ("at", 1)), ("a", ("at", 3)))),
                                         ("row", (("at", 0), 3, ("at", 2))), ("text", "one"), ("text", "two")))
        self.assertEqual(drawn(web, 2), (("text", "two"),))

    def test_records_and_what_is_shared(self):
        web = (("text", "unmet"), ("record", "dog", (("a", ("at", 2)), ("b", ("at", 2)), ("c", ("at", 1)))),
               ("row", (("at", 1),)))
        self.assertEqual(drawn(web, 1), (("record", "dog", (("a", ("at", 1)), ("b", ("at", 1)), ("c", ("at", 0)))),
                                         ("row", (("at", 0),))))

    def test_a_settled_web_is_itself(self):
        settled = (("row", (("at", 1), ("at", 3))), ("row", (("at", 2), ("at", 0))), ("text", "a"), ("text", "a"))
        for web in (settled, chain(60), ring(60), (("text", ""),)):
            self.assertEqual(drawn(web), web)
            self.assertEqual(drawn(web, 0), web)

    def test_drawn_is_settled_and_a_web_and_has_the_parts_met(self):
        for web in made_webs(300):
            for k in range(len(web)):
                with self.subTest(web=web, k=k):
                    out = drawn(web, k)
                    order = met_by_the_words(web, k)
                    self.assertIs(is_web(out), True)
                    self.assertEqual(drawn(out), out)
                    self.assertEqual([head(part) for part in out], [head(web[part]) for part in order])
                    for part, old in zip(out, order):
                        for value, was in zip(values(part), values(web[old])):
                            now = ("at", order[value[1]]) if isinstance(value, tuple) else value
                            self.assertEqual(now, was)

    def test_a_ring_from_another_part(self):
        web = (("row", (("at", 1), 10)), ("row", (("at", 2), 11)), ("row", (("at", 0), 12)))
        self.assertEqual(drawn(web, 1), (("row", (("at", 1), 11)), ("row", (("at", 2), 12)), ("row", (("at", 0), 10))))


class StaysTest(unittest.TestCase):
    def test_what_is_handed_in_stays(self):
        web = copy.deepcopy(EVERY_KIND)
        some = [5, None, ("at", 0)]
        met(web), drawn(web), drawn(web, 3), is_web(web)
        for part in web:
            head(part), values(part), with_values(part, values(part))
        with_values(web[0], some)
        self.assertEqual(web, EVERY_KIND)
        self.assertEqual(some, [5, None, ("at", 0)])

    def test_asking_changes_no_lists(self):
        wrong = [["row", [1, ["at", 0]]]]
        kept = copy.deepcopy(wrong)
        for asked in (is_name, is_word, is_value, is_part, is_web):
            self.assertIs(asked(wrong), False)
        self.assertEqual(wrong, kept)

    def test_what_is_told_is_the_askers_own(self):
        told = met(EVERY_KIND)
        told.append(99)
        told[0] = -1
        self.assertEqual(met(EVERY_KIND), [0, 1, 2, 3])
        for part in EVERY_KIND:
            first = values(part)
            kept = list(first)
            first.append(77)
            first.reverse()
            self.assertEqual(values(part), kept)

    def test_what_is_done_later_to_what_was_handed_in_changes_nothing(self):
        for part in (("row", (1, 2)), ("table", (("a", 1), ("b", 2))), ("record", "dog", (("a", 1), ("b", 2)))):
            some = [8, 9]
            told = with_values(part, some)
            some[0] = 0
            some.append(1)
            self.assertEqual(values(told), [8, 9])

    def test_asked_again_the_same_is_told(self):
        for web in made_webs(50):
            again = copy.deepcopy(web)
            self.assertEqual(met(web), met(again))
            self.assertEqual(drawn(web), drawn(again))
            self.assertEqual([head(part) for part in web], [head(part) for part in again])
            self.assertEqual(drawn(web), drawn(web))
            self.assertIs(is_web(web), is_web(again))

import copy
import unittest

from graphpack.errors import NoMake, TooMany, WebError
from graphpack.makes import brought, plain
from graphpack.same import same
from graphpack.webs import count_names, is_web, met
from tests.samples import EVERY_KIND, Maker, chain, made_webs, names_web

FAR = 10 ** 59

BOOK = (
    ("dog", (("name", "age"), ("age", "legs", "name"), (), ("tail",)), (("legs", 4), ("age", 0))),
    ("cat", (("a", "b"),), ()),
    ("a", ((), ("a",), ("b", "a"), ("cd", "e0", "99"), ("a", "b", "cd", "e0", "99", "abcdefgh", "x", "y")), (("x", -1),)),
)

NAMES = ("a", "b", "cd", "e0", "99", "abcdefgh")


def dog(*pairs):
    return ("record", "dog", tuple(pairs))


def made_book(maker):
    """A class book whose names are those of the records that are made."""
    book = []
    for name in ("dog", "cat", "a", "0", "bird"):
        if maker.below(4):
            makes = [tuple(maker.shuffled(NAMES + ("new", "0"))[:maker.below(9)]) for _ in range(1 + maker.below(6))]
            filled = maker.shuffled(NAMES + ("new",))[:maker.below(6)]
            book.append((name, tuple(makes), tuple([(field, maker.chosen((None, 0, 5, -1))) for field in filled])))
    return tuple(book)


def made_web(maker):
    """A web whose records have values of few kinds, so that many of them are fills."""
    count = 2 + maker.below(5)
    parts = []
    for _ in range(count):
        names = maker.shuffled(NAMES + ("new",))[:maker.below(8)]
        pairs = tuple([(name, maker.chosen((None, 0, 5, -1, ("at", maker.below(count))))) for name in names])
        sort = maker.below(6)
        parts.append(("table", pairs) if sort == 0 else ("row", (5, ("at", 0))) if sort == 1
                     else ("record", maker.chosen(("dog", "cat", "a", "0")), pairs))
    return tuple(parts)


def made_list(maker, book):
    return [(entry[0], maker.below(len(entry[1]))) for entry in maker.shuffled(book) if maker.below(3)]


def other_list(maker, book, makes):
    """Other makes of the same classes."""
    sizes = {entry[0]: len(entry[1]) for entry in book}
    return [(name, maker.below(sizes[name])) for name, _ in maker.shuffled(makes)]


def fill_by_the_words(entry, field):
    for name, value in entry[2]:
        if name == field:
            return value
    return None


def record_by_the_words(part, entry, fields):
    pairs = []
    for field in fields:
        here = [value for name, value in part[2] if name == field]
        pairs.append((field, here[0] if here else fill_by_the_words(entry, field)))
    left = [pair for pair in part[2] if pair[0] not in fields and pair[1] != fill_by_the_words(entry, pair[0])]
    while left:
        least = min([pair[0] for pair in left])
        pairs += [pair for pair in left if pair[0] == least]
        left = [pair for pair in left if pair[0] != least]
    return part[:2] + (tuple(pairs),)


def brought_by_the_words(web, book, makes):
    out = list(web)
    for name, number in makes:
        entry = [entry for entry in book if entry[0] == name][0]
        for k, part in enumerate(out):
            if part[0] == "record" and part[1] == name:
                out[k] = record_by_the_words(part, entry, entry[1][number])
    return tuple(out)


class BroughtTest(unittest.TestCase):
    def assert_brought(self, pairs, make, out):
        self.assertEqual(brought((dog(*pairs),), BOOK, [("dog", make)]), (dog(*out),))

    def test_fields_come_in_the_makes_order_with_the_values_that_they_had(self):
        self.assert_brought([("name", ("at", 0)), ("age", 3)], 0, [("name", ("at", 0)), ("age", 3)])
        self.assert_brought([("age", 3), ("name", 1)], 0, [("name", 1), ("age", 3)])
        self.assert_brought([("name", 1), ("legs", 3), ("age", 7)], 1, [("age", 7), ("legs", 3), ("name", 1)])

    def test_fields_that_it_had_not_have_their_fills(self):
        self.assert_brought([], 0, [("name", None), ("age", 0)])
        self.assert_brought([], 1, [("age", 0), ("legs", 4), ("name", None)])
        self.assert_brought([], 2, [])
        self.assert_brought([], 3, [("tail", None)])
        self.assert_brought([("name", 9)], 1, [("age", 0), ("legs", 4), ("name", 9)])

    def test_a_field_keeps_its_value_also_where_it_is_none_or_its_fill(self):
        self.assert_brought([("legs", None), ("age", None), ("name", None)], 1,
                            [("age", None), ("legs", None), ("name", None)])
        self.assert_brought([("legs", 4), ("age", 0)], 1, [("age", 0), ("legs", 4), ("name", None)])

    def test_other_pairs_come_behind_by_rising_names(self):
        pairs = [("b", 1), ("aa", 2), ("name", 3), ("a", 4), ("9", 5), ("10", 6), ("a0", 7), ("z", 8), ("9a", 9), ("99", 10)]
        self.assert_brought(pairs, 0, [("name", 3), ("age", 0), ("10", 6), ("9", 5), ("99", 10), ("9a", 9), ("a", 4),
                                       ("a0", 7), ("aa", 2), ("b", 1), ("z", 8)])
        self.assert_brought([("zz", 1), ("tail", 2), ("age", 3), ("legs", 5)], 3,
                            [("tail", 2), ("age", 3), ("legs", 5), ("zz", 1)])

    def test_other_pairs_that_are_their_fills_are_left_out(self):
        self.assert_brought([("legs", 4), ("tail", None), ("age", 0), ("x", None)], 2, [])
        self.assert_brought([("legs", 0), ("tail", 0), ("age", 4), ("x", 0)], 2,
                            [("age", 4), ("legs", 0), ("tail", 0), ("x", 0)])
        # None isn't the fill where another one stands.
        self.assert_brought([("legs", None), ("age", None), ("tail", None)], 2, [("age", None), ("legs", None)])
        # A link is no fill, wherever it leads.
        self.assert_brought([("age", ("at", 0)), ("name", ("at", 0))], 2, [("age", ("at", 0)), ("name", ("at", 0))])
        self.assert_brought([("name", 3), ("legs", 4), ("x", 4)], 0, [("name", 3), ("age", 0), ("x", 4)])

    def test_a_fill_none_is_one(self):
        book = (("dog", (("a",), ("b",)), (("a", None), ("b", 5))),)
        self.assertEqual(brought((dog(("a", None), ("b", 5)),), book, [("dog", 0)]), (dog(("a", None)),))
        self.assertEqual(brought((dog(("a", None)),), book, [("dog", 1)]), (dog(("b", 5)),))
        self.assertEqual(brought((dog(("a", 5), ("b", None)),), book, [("dog", 1)]), (dog(("b", None), ("a", 5)),))

    def test_numbers_of_sixty_figures(self):
        book = (("dog", ((), ("a", "b")), (("a", FAR), ("b", -FAR))),)
        self.assertEqual(brought((dog(),), book, [("dog", 1)]), (dog(("a", FAR), ("b", -FAR)),))
        self.assertEqual(brought((dog(("a", FAR), ("b", FAR)),), book, [("dog", 0)]), (dog(("b", FAR)),))

    def test_all_else_stays_as_it_was(self):
        pairs = (("z", None), ("legs", 4), ("a", ("at", 1)))
        web = (("table", pairs), ("record", "bird", pairs), ("record", "cat", pairs), ("row", (4, None, ("at", 3))),
               ("text", "dog"), ("record", "dog", pairs), ("text", ""))
        out = ("record", "dog", (("name", None), ("age", 0), ("a", ("at", 1))))
        self.assertEqual(brought(web, BOOK, [("dog", 0)]), web[:5] + (out,) + web[6:])
        # A class of the book that is not in the list stays, and so does all without one in it.
        self.assertEqual(brought(web, BOOK, []), web)
        self.assertEqual(brought(web, (), []), web)
        self.assertEqual(brought(EVERY_KIND, BOOK, [("cat", 0)]), EVERY_KIND)

    def test_each_record_of_each_class_of_the_list(self):
        web = (("row", (("at", 1), ("at", 2))), dog(("age", 1)), ("record", "cat", (("b", ("at", 1)),)), dog(("x", 1)),
               ("record", "cat", ()), ("record", "a", (("x", -1),)))
        out = (web[0], dog(("tail", None), ("age", 1)), ("record", "cat", (("a", None), ("b", ("at", 1)))),
               dog(("tail", None), ("x", 1)), ("record", "cat", (("a", None), ("b", None))), web[5])
        self.assertEqual(brought(web, BOOK, [("dog", 3), ("cat", 0)]), out)
        self.assertEqual(brought(web, BOOK, [("cat", 0), ("dog", 3)]), out)
        self.assertEqual(brought(web, BOOK, [("cat", 0), ("a", 0), ("dog", 3)]), out[:5] + (("record", "a", ()),))

    def test_parts_keep_their_numbers_met_or_not(self):
        web = (("text", "a"), dog(("x", ("at", 2))), ("row", (("at", 1),)))
        self.assertEqual(met(web), [0])
        self.assertEqual(brought(web, BOOK, [("dog", 3)]), (web[0], dog(("tail", None), ("x", ("at", 2))), web[2]))

    def test_a_class_without_records_in_the_web(self):
        self.assertEqual(brought(chain(60), BOOK, [("dog", 0), ("cat", 0)]), chain(60))

    def test_against_the_words(self):
        changed = 0
        for seed in range(600):
            maker = Maker(seed)
            web = made_web(maker)
            book = made_book(maker)
            makes = made_list(maker, book)
            out = brought_by_the_words(web, book, makes)
            if max([len(part[-1]) for part in out]) <= 12:
                self.assertEqual(brought(web, book, makes), out)
                self.assertIs(is_web(out), True)
                changed += out != web
        self.assertGreater(changed, 200)


class RefusedTest(unittest.TestCase):
    def assert_refused(self, refusal, web, classes, makes):
        with self.assertRaises(WebError) as caught:
            brought(web, classes, makes)
        self.assertIs(type(caught.exception), refusal)

    def test_a_class_that_is_not_in_the_book(self):
        for web in ((dog(),), (("record", "bird", ()),), chain(3)):
            self.assert_refused(NoMake, web, BOOK, [("bird", 0)])
            self.assert_refused(NoMake, web, (), [("dog", 0)])
            self.assert_refused(NoMake, web, BOOK, [("dog", 0), ("cat", 0), ("do", 0)])
            self.assert_refused(NoMake, web, BOOK, [("name", 0), ("dog", 0)])

    def test_a_class_twice_in_the_list(self):
        for web in ((dog(),), chain(3)):
            self.assert_refused(NoMake, web, BOOK, [("dog", 0), ("dog", 0)])
            self.assert_refused(NoMake, web, BOOK, [("dog", 0), ("dog", 1)])
            self.assert_refused(NoMake, web, BOOK, [("dog", 0), ("cat", 0), ("a", 0), ("dog", 2)])

    def test_a_number_that_is_none_of_its_makes(self):
        for web in ((dog(),), chain(3)):
            for number in (-1, -2, -4, -FAR, 4, 5, FAR):
                self.assert_refused(NoMake, web, BOOK, [("dog", number)])
            self.assert_refused(NoMake, web, BOOK, [("cat", 1)])
            self.assert_refused(NoMake, web, BOOK, [("dog", 0), ("cat", -1)])
            self.assert_refused(NoMake, web, BOOK, [("a", 5), ("dog", 0)])
            self.assertEqual(len(brought(web, BOOK, [("dog", 3), ("a", 4), ("cat", 0)])), len(web))

    def test_thirteen_pairs_and_twelve(self):
        eight = tuple(["f" + str(k) for k in range(8)])
        book = (("dog", (eight, ()), (("x4", 4), ("f0", 0))),)
        four = tuple([("x" + str(k), k) for k in range(4)])
        out = brought((dog(*four),), book, [("dog", 0)])
        self.assertEqual(len(out[0][2]), 12)
        self.assertEqual(out, (dog(*(tuple([(name, 0 if name == "f0" else None) for name in eight]) + four)),))
        self.assert_refused(TooMany, (dog(*four, ("x5", 0)),), book, [("dog", 0)])
        self.assert_refused(TooMany, (("text", ""), dog(), dog(*four, ("x5", ("at", 0)))), book, [("dog", 0)])
        # What is its fill is left out and doesn't count, and neither does a pair of the make's own.
        self.assertEqual(brought((dog(*four, ("x4", 4)),), book, [("dog", 0)]), out)
        self.assertEqual(brought((dog(*four, ("y", None)),), book, [("dog", 0)]), out)
        self.assertEqual(brought((dog(*four, ("f0", 0), ("f7", None)),), book, [("dog", 0)]), out)
        twelve = tuple([("x" + str(10 + k), k) for k in range(12)])
        self.assertEqual(brought((dog(*twelve),), book, [("dog", 1)]), (dog(*twelve),))

    def test_sixty_one_unlike_names_and_sixty(self):
        filled = tuple([("n" + str(k), 0) for k in range(59)])
        book = (("dog", (("n0",), ("n58", "n0"), ("new",)), filled), ("cat", (("new",),), ()))
        # The class, and ten names in each of five records.
        short = tuple([("record", "dog", part[2][:10]) for part in names_web(60)])
        self.assertEqual(count_names(short), 51)
        nine = ("record", "cat", tuple([("m" + str(k), 1) for k in range(8)]))
        self.assertEqual(count_names(short + (nine,)), 60)
        self.assertEqual(len(brought(short + (nine,), book, [("dog", 0)])), 6)
        self.assert_refused(TooMany, short + (nine,), book, [("dog", 2)])
        self.assert_refused(TooMany, short + (nine,), book, [("cat", 0)])
        # One name less, and the new one is the sixtieth.
        eight = ("record", "cat", nine[2][:7])
        self.assertEqual(count_names(brought(short + (eight,), book, [("dog", 2)])), 60)
        self.assertEqual(count_names(brought(short + (eight,), book, [("cat", 0)])), 60)
        # One is left out where another one comes.
        gone = ("record", "cat", nine[2][:7] + (("m7", None),))
        self.assertEqual(count_names(short + (gone,)), 60)
        self.assertEqual(count_names(brought(short + (gone,), book, [("cat", 0)])), 60)

    def test_names_of_classes_count_too(self):
        web = tuple([("record", "c" + str(k), ()) for k in range(60)])
        book = (("c0", ((), ("c1",), ("new",)), ()),)
        self.assertEqual(brought(web, book, [("c0", 0)]), web)
        self.assertEqual(brought(web, book, [("c0", 1)]), (("record", "c0", (("c1", None),)),) + web[1:])
        self.assert_refused(TooMany, web, book, [("c0", 2)])
        # A make of a class that has no record there brings no name.
        self.assertEqual(brought(web, book + (("z", (("new",),), ()),), [("z", 0)]), web)

    def test_both_faults_at_once(self):
        eight = tuple(["f" + str(k) for k in range(8)])
        book = (("dog", (eight,), ()), ("cat", ((),), ()))
        web = (dog(*[("x" + str(k), k) for k in range(5)]),)
        self.assert_refused(TooMany, web, book, [("dog", 0)])
        for makes in ([("dog", 0), ("bird", 0)], [("dog", 0), ("dog", 0)], [("dog", 0), ("cat", 1)],
                      [("cat", -1), ("dog", 0)], [("bird", 0), ("dog", 0)]):
            self.assert_refused(NoMake, web, book, makes)

    def test_somewhat_beyond_other_bounds_nothing_is_refused(self):
        nine = tuple(["f" + str(k) for k in range(9)])
        book = (("dog", ((),) * 7 + (nine,), ()),)
        # The thirteen pairs of a table are no record's.
        wide = ("table", tuple([("x" + str(k), k) for k in range(13)]))
        self.assertEqual(brought((wide, dog()), book, [("dog", 0)]), (wide, dog()))
        self.assertEqual(brought((dog(),), book, [("dog", 7)]), (dog(*[(name, None) for name in nine]),))


class PlainTest(unittest.TestCase):
    def test_by_hand(self):
        web = (dog(("name", ("at", 1)), ("legs", 4), ("age", 3), ("10", 1), ("9", None)), ("text", "rex"),
               ("record", "cat", (("b", 2), ("a", None))), ("record", "bird", (("b", 2), ("a", None))),
               ("table", (("b", 2), ("a", None))), dog(("age", None), ("legs", None), ("a", 0)))
        self.assertEqual(plain(web, BOOK), (dog(("10", 1), ("age", 3), ("name", ("at", 1))), web[1],
                                            ("record", "cat", (("b", 2),)), web[3], web[4],
                                            dog(("a", 0), ("age", None), ("legs", None))))

    def test_by_a_book_without_classes_all_stays(self):
        for web in made_webs(30) + [EVERY_KIND]:
            self.assertEqual(plain(web, ()), web)

    def test_against_the_words(self):
        for seed in range(200):
            maker = Maker(seed)
            web = made_web(maker)
            book = made_book(maker)
            bare = tuple([(entry[0], ((),), entry[2]) for entry in book])
            out = plain(web, book)
            self.assertEqual(out, brought_by_the_words(web, bare, [(entry[0], 0) for entry in book]))
            self.assertEqual(plain(out, book), out)
            fills = {entry[0]: dict(entry[2]) for entry in book}
            for part in out:
                if part[0] == "record" and part[1] in fills:
                    self.assertEqual([pair[0] for pair in part[2]], sorted([pair[0] for pair in part[2]]))
                    self.assertTrue(all(pair[1] != fills[part[1]].get(pair[0]) for pair in part[2]))

    def test_beyond_the_bounds_of_webs_nothing_is_refused(self):
        many = tuple([("x" + str(10 + k), k) for k in range(13)])
        self.assertEqual(plain((dog(*many),), BOOK), (dog(*many),))
        web = tuple([dog(("y" + str(k), 1)) for k in range(70)])
        self.assertEqual(plain(web, BOOK), web)


class ThereAndBackTest(unittest.TestCase):
    def rounds(self):
        for seed in range(400):
            maker = Maker(seed)
            web = made_web(maker)
            book = made_book(maker)
            makes = made_list(maker, book)
            try:
                yield maker, book, makes, web, brought(web, book, makes)
            except TooMany:
                continue

    def test_the_last_list_alone_tells_what_comes(self):
        count = 0
        for maker, book, makes, web, out in self.rounds():
            try:
                for _ in range(1 + maker.below(4)):
                    last = other_list(maker, book, makes)
                    out = brought(out, book, last)
            except TooMany:
                continue
            self.assertEqual(out, brought(web, book, last))
            count += out != web
        self.assertGreater(count, 100)

    def test_brought_back_it_is_as_it_was(self):
        count = 0
        for maker, book, makes, _, out in self.rounds():
            try:
                there = brought(out, book, other_list(maker, book, makes))
            except TooMany:
                continue
            self.assertEqual(brought(there, book, makes), out)
            count += there != out
        self.assertGreater(count, 100)

    def test_made_plain_it_is_the_same_ahead_and_behind(self):
        count = 0
        for _, book, makes, web, out in self.rounds():
            self.assertEqual(plain(out, book), plain(web, book))
            count += not same(out, web)
        self.assertGreater(count, 100)

    def test_by_hand(self):
        web = (dog(("name", ("at", 0)), ("age", None)),)
        there = brought(web, BOOK, [("dog", 1)])
        self.assertEqual(there, (dog(("age", None), ("legs", 4), ("name", ("at", 0))),))
        self.assertEqual(brought(there, BOOK, [("dog", 0)]), web)
        none = brought(there, BOOK, [("dog", 2)])
        self.assertEqual(none, (dog(("age", None), ("name", ("at", 0))),))
        self.assertEqual(none, plain(web, BOOK))
        self.assertEqual(brought(none, BOOK, [("dog", 0)]), web)


class StaysTest(unittest.TestCase):
    def test_what_is_handed_in_stays_also_where_it_is_refused(self):
        for makes in ([("dog", 1), ("a", 2)], [("dog", 9)], [("dog", 0), ("dog", 0)], [("bird", 0)]):
            kept = copy.deepcopy((EVERY_KIND, BOOK, makes))
            try:
                brought(EVERY_KIND, BOOK, makes)
            except NoMake:
                pass
            plain(EVERY_KIND, BOOK)
            self.assertEqual((EVERY_KIND, BOOK, makes), kept)

    def test_what_is_done_to_the_list_behind_the_call_changes_nothing(self):
        makes = [("dog", 1)]
        out = brought((dog(),), BOOK, makes)
        kept = copy.deepcopy(out)
        makes[0] = ("dog", 3)
        makes.append(("cat", 0))
        self.assertEqual(out, kept)
        self.assertEqual(brought((dog(),), BOOK, [("dog", 1)]), kept)

    def test_asked_again_the_same_is_told(self):
        for web in made_webs(40):
            self.assertEqual(brought(web, BOOK, [("dog", 0), ("cat", 0)]), brought(web, BOOK, [("dog", 0), ("cat", 0)]))
            self.assertEqual(plain(web, BOOK), plain(copy.deepcopy(web), copy.deepcopy(BOOK)))

    def test_kinds(self):
        for told in (brought(EVERY_KIND, BOOK, [("dog", 1)]), plain(EVERY_KIND, BOOK)):
            self.assertIs(type(told), tuple)
            self.assertIs(is_web(told), True)
            for part in told:
                self.assertIs(type(part), tuple)
                self.assertIs(type(part[-1]), str if part[0] == "text" else tuple)

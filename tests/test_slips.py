import copy
import unittest

from graphpack.errors import NoBase, WebError
from graphpack.packs import pack
from graphpack.same import is_pairing, pairing, same
from graphpack.slips import laid, mark, slip, stay
from graphpack.texts import read
from graphpack.webs import drawn, head, is_web, values
from tests.pack_words import pack_by_the_words
from tests.samples import EVERY_KIND, Maker, chain, classes_web, made_webs, plain_webs, renumbered, ring


def linked(value):
    return isinstance(value, tuple)


def pairs_by_the_words(one, other):
    made = [(0, 0)]
    for pair in made:
        mine, yours = values(one[pair[0]]), values(other[pair[1]])
        for place in range(min(len(mine), len(yours))):
            if linked(mine[place]) and linked(yours[place]):
                k, j = mine[place][1], yours[place][1]
                if all(k != a and j != b for a, b in made):
                    made.append((k, j))
    return made


def is_fit(one, other, pair, still):
    """Whether a pair isn't to be left out where these are still there."""
    k, j = pair
    if head(one[k]) != head(other[j]):
        return False
    for mine, yours in zip(values(one[k]), values(other[j])):
        if linked(mine) and linked(yours):
            if (mine[1], yours[1]) not in still:
                return False
        elif mine != yours:
            return False
    return True


def stay_by_the_words(old, new):
    """One pair after the other is left out, in whatever order."""
    one, other = drawn(old), drawn(new)
    still = pairs_by_the_words(one, other)
    unfit = [pair for pair in still if not is_fit(one, other, pair, still)]
    while unfit:
        still.remove(unfit[-1])
        unfit = [pair for pair in still if not is_fit(one, other, pair, still)]
    return sorted(still)


def all_closed(one, other, made):
    """All pairs that stand in some choice of them in which none is to be left out."""
    found = set()
    for number in range(1 << len(made)):
        chosen = [pair for place, pair in enumerate(made) if number >> place & 1]
        if all(is_fit(one, other, pair, chosen) for pair in chosen):
            found.update(chosen)
    return sorted(found)


def mark_by_the_words(web):
    total = 0
    for place, byte in enumerate(pack_by_the_words(web)):
        total += byte * (place + 1)
    return total % 65521


def web_pairs(count):
    """Webs beside webs, mostly such as share much with them, drawn in whatever order and with parts that are not met."""
    out = []
    for seed in range(count):
        maker = Maker(seed)
        web = maker.plain_web(9) if seed % 3 else maker.web()
        new = maker.changed(web)
        for _ in range(maker.below(3)):
            new = maker.changed(new)
        out.append((web, renumbered(new, [0] + maker.shuffled(range(1, len(new))))))
        if seed % 5 == 0:
            out.append((web, maker.web()))
    return out


class StayTest(unittest.TestCase):
    def assert_stay(self, old, new, pairs):
        self.assertEqual(stay(read(old), read(new)), pairs)

    def test_equal_webs(self):
        for web in made_webs(60) + [chain(60), ring(60), classes_web(60), EVERY_KIND]:
            self.assertEqual(stay(web, web), [(k, k) for k in range(len(drawn(web)))])

    def test_a_changed_number(self):
        self.assert_stay("[@1, @2]; 'a'; [5]", "[@1, @2]; 'a'; [6]", [(1, 1)])
        self.assert_stay("[@1, 5]; [@2]; 'a'", "[@1, 6]; [@2]; 'a'", [(1, 1), (2, 2)])
        self.assert_stay("[5]", "[6]", [])
        self.assert_stay("[5]", "[5]", [(0, 0)])
        self.assert_stay("[@1]; [@2]; [@3]; [5]", "[@1]; [@2]; [@3]; [-5]", [])

    def test_none_a_number_and_a_link_are_not_the_same(self):
        self.assert_stay("[nil, @1]; 'a'", "[0, @1]; 'a'", [(1, 1)])
        self.assert_stay("[@1, @1]; 'a'", "[nil, @1]; 'a'", [(1, 1)])
        self.assert_stay("[1, @1]; 'a'", "[@1, @1]; 'a'", [(1, 1)])
        self.assert_stay("[nil, @1]; 'a'", "[nil, @1]; 'a'", [(0, 0), (1, 1)])

    def test_a_changed_link(self):
        self.assert_stay("[@1, @2]; 'a'; 'b'", "[@2, @1]; 'a'; 'b'", [])
        self.assert_stay("[@1, @2]; [@2]; 'b'", "[@1, @2]; [@0]; 'b'", [(2, 2)])

    def test_a_changed_head(self):
        self.assert_stay("[@1, @2]; 'a'; 'b'", "[@1, @2]; 'a'; 'c'", [(1, 1)])
        self.assert_stay("{a=@1}; 'a'", "{b=@1}; 'a'", [(1, 1)])
        self.assert_stay("dog{a=@1}; 'a'", "cat{a=@1}; 'a'", [(1, 1)])
        self.assert_stay("dog{a=@1}; 'a'", "{a=@1}; 'a'", [(1, 1)])
        self.assert_stay("[@1]; 'a'", "{a=@1}; 'a'", [(1, 1)])
        self.assert_stay("{a=1, b=2}", "{b=2, a=1}", [])
        self.assert_stay("'a'", "'a'", [(0, 0)])
        self.assert_stay("'a'", "[@1]; 'a'", [])

    def test_as_far_as_both_have_places(self):
        self.assert_stay("[@1, @2]; 'a'; 'b'", "[@1]; 'a'", [(1, 1)])
        self.assert_stay("[@1]; 'a'", "[@1, @2]; 'a'; 'b'", [(1, 1)])
        self.assert_stay("[@1, @2]; 'a'; 'b'", "[7, @1]; 'b'", [(2, 1)])
        self.assert_stay("[]", "[nil]", [])

    def test_parts_shared_otherwise(self):
        self.assert_stay("[@1, @2]; 'a'; 'a'", "[@1, @1]; 'a'", [(1, 1)])
        self.assert_stay("[@1, @1]; 'a'", "[@1, @2]; 'a'; 'a'", [(1, 1)])
        self.assert_stay("[@1, @2]; [@3]; [@3]; 'a'", "[@1, @2]; [@3]; [@4]; 'a'; 'a'", [(1, 1), (2, 2)])
        self.assert_stay("[@1, @2]; [@3]; [@4]; 'a'; 'a'", "[@1, @2]; [@3]; [@3]; 'a'", [(1, 1), (2, 2)])

    def test_rings(self):
        for count in (1, 2, 3, 60):
            self.assertEqual(stay(ring(count), ring(count)), [(k, k) for k in range(count)])
        self.assertEqual(stay(ring(3), ring(4)), [])
        self.assertEqual(stay(ring(4), ring(3)), [])
        self.assertEqual(stay(ring(1), ring(2)), [])
        # A ring behind the root stays where the root doesn't.
        self.assert_stay("[@1, 5]; [@2]; [@1]", "[@1, 6]; [@2]; [@1]", [(1, 1), (2, 2)])
        # What goes round by a part that went goes too.
        self.assert_stay("[@1, 5]; [@2]; [@0]", "[@1, 6]; [@2]; [@0]", [])

    def test_the_pairs_are_made_in_order(self):
        # The root's own second place comes ahead of what is behind its first one: so 'x' has the new 'x' as its pair.
        self.assert_stay("[@1, @3]; [@2]; 'y'; 'x'", "[@1, @2]; [@2]; 'x'", [(3, 2)])
        self.assert_stay("[@1, @2]; [@2]; 'x'", "[@1, @3]; [@2]; 'y'; 'x'", [(2, 3)])
        # And the first place comes ahead of the second.
        self.assert_stay("[@1, @2]; 'x'; 'y'", "[@1, @1]; 'y'", [])
        self.assert_stay("[@1, @2]; 'x'; 'y'", "[@1, @1]; 'x'", [(1, 1)])
        # Of two pairs that were made the one made first is gone on from first.
        self.assert_stay("[@1, @3]; [@2]; 'x'; [@4]; 'y'", "[@1, @3]; [@2]; 'y'; [@2]", [])
        self.assert_stay("[@1, @3]; [@2]; 'y'; [@4]; 'x'", "[@1, @3]; [@2]; 'y'; [@2]", [(1, 1), (2, 2)])

    def test_a_part_is_in_one_pair_alone(self):
        # Old part 1 could be new part 2 as well, but new part 1 came first.
        self.assert_stay("[@1, @1]; 'a'", "[@1, @2]; 'b'; 'a'", [])

    def test_the_numbers_are_those_of_the_webs_drawn(self):
        self.assert_stay("[@3, @1]; 'a'; 'unmet'; 'b'", "[@1, @3]; 'b'; {z=nil}; 'a'", [(0, 0), (1, 1), (2, 2)])
        self.assert_stay("[@3, @1, 1]; 'a'; 'unmet'; [@1]", "[@2, @3, 2]; 'unmet'; [@3]; 'a'", [(1, 1), (2, 2)])
        # What isn't met stays in no pair, though it were the same.
        self.assert_stay("[5]; 'a'", "[5]; 'a'", [(0, 0)])

    def test_rising(self):
        # Made are (0, 0), (1, 1), (3, 3), (2, 2).
        self.assert_stay("[@1, @3]; [@2]; 'y'; 'x'", "[@1, @3]; [@2]; 'y'; 'x'", [(0, 0), (1, 1), (2, 2), (3, 3)])

    def test_against_the_words(self):
        sizes = set()
        for old, new in web_pairs(500):
            told = stay(old, new)
            self.assertEqual(told, stay_by_the_words(old, new))
            sizes.add(len(told))
        self.assertGreaterEqual(len(sizes), 8)

    def test_it_is_the_greatest_choice_of_the_pairs_in_which_none_is_to_be_left_out(self):
        for old, new in web_pairs(120):
            one, other = drawn(old), drawn(new)
            made = pairs_by_the_words(one, other)
            if len(made) <= 7:
                self.assertEqual(stay(old, new), all_closed(one, other, made))

    def test_with_the_roots_it_is_the_pairing_of_webs_that_are_the_same(self):
        for old, new in web_pairs(200):
            told = stay(old, new)
            self.assertEqual((0, 0) in told, same(old, new))
            if same(old, new):
                self.assertEqual(told, pairing(drawn(old), drawn(new)))
                self.assertIs(is_pairing(drawn(old), drawn(new), told), True)

    def test_beyond_the_bounds_of_webs_nothing_is_refused(self):
        self.assertEqual(stay(chain(70), chain(70)), [(k, k) for k in range(70)])
        self.assertEqual(laid(chain(70), slip(chain(70), chain(75))), chain(75))
        many = (("row", tuple([("at", k % 2 + 1) for k in range(30)])), ("text", "a" * 30), ("text", "b"))
        self.assertEqual(laid(chain(3), slip(chain(3), many)), many)


class MarkTest(unittest.TestCase):
    def test_by_hand(self):
        # The packs are 3; 39 19 97 2; 39 19 97 23 41.
        self.assertEqual(mark(read("''")), 3)
        self.assertEqual(mark(read("[@1, @1]; 'a'")), 39 + 2 * 19 + 3 * 97 + 4 * 2)
        self.assertEqual(mark(read("[@1, @1]; 'a'")), 376)
        self.assertEqual(mark(read("[@1, @2]; 'a'; [5]")), 665)

    def test_what_is_left_over(self):
        # The sum is 4261651, which is 65 times 65521 and 2786.
        web = (("row", tuple([("at", k) for k in range(1, 13)])),) + (("text", "z" * 20),) * 12
        self.assertEqual(pack(web), [129, 71] + ([130, 67] + [122] * 20) * 12)
        self.assertEqual(mark(web), 2786)

    def test_the_same_for_webs_that_are_the_same(self):
        for web in made_webs(60):
            numbers = [0] + Maker(1).shuffled(range(1, len(web)))
            self.assertEqual(mark(renumbered(web, numbers)), mark(web))
            self.assertEqual(mark(web + (("text", "unmet"),)), mark(web))

    def test_against_the_words(self):
        great = 0
        for web in made_webs(200) + [chain(60), ring(60), classes_web(60)]:
            told = mark(web)
            self.assertEqual(told, mark_by_the_words(web))
            self.assertIs(type(told), int)
            self.assertTrue(0 <= told < 65521)
            great += sum([byte * (place + 1) for place, byte in enumerate(pack(web))]) >= 65521
        self.assertGreaterEqual(great, 1)


class SlipTest(unittest.TestCase):
    def test_by_hand(self):
        old = read("[@1, @2]; 'a'; [5]")
        new = read("[@1, @2]; 'a'; [6]")
        told = slip(old, new)
        self.assertEqual(told, (665, (("row", (("at", 1), ("at", 2))), ("old", 1), ("row", (6,)))))
        self.assertEqual(laid(old, told), new)

    def test_by_hand_with_other_numbers(self):
        # The old parts 1 and 3, the table and the text, are 2 and 3 in the new web.
        old = read("[@1, @2, @3]; {a=@3, b=7}; 'gone'; 'held'")
        new = read("[@2, nil, @3, @1]; 'new'; {a=@3, b=7}; 'held'")
        self.assertEqual(drawn(old), read("[@1, @3, @2]; {a=@2, b=7}; 'held'; 'gone'"))
        told = slip(old, new)
        self.assertEqual(told[1], (("row", (("at", 1), None, ("at", 2), ("at", 3))), ("old", 1), ("old", 2), ("text", "new")))
        self.assertEqual(laid(old, told), read("[@1, nil, @2, @3]; {a=@2, b=7}; 'held'; 'new'"))

    def test_links_of_old_parts_are_led_to_the_new_numbers(self):
        old = read("[@1, 1]; {a=@2, b=@1}; dog{c=@1, d=@3}; 'x'")
        new = read("[@1, @2]; {a=@3, b=@1}; 'more'; dog{c=@1, d=@4}; 'x'")
        told = slip(old, new)
        self.assertEqual(told[1], (("row", (("at", 1), ("at", 4))), ("old", 1), ("old", 2), ("old", 3), ("text", "more")))
        self.assertEqual(laid(old, told), drawn(new))
        # Ahead of the old ones, so that each has another number.
        new = read("[@4, @1]; {a=@2, b=@1}; dog{c=@1, d=@3}; 'x'; 'more'")
        told = slip(old, new)
        self.assertEqual(told[1][:2], (("row", (("at", 1), ("at", 2))), ("text", "more")))
        self.assertEqual(laid(old, told), drawn(new))
        old = read("[1, @1]; {a=@2, b=@1}; dog{c=@1, d=@3}; 'x'")
        told = slip(old, new)
        self.assertEqual(told[1], (("row", (("at", 1), ("at", 2))), ("text", "more"), ("old", 1), ("old", 2), ("old", 3)))
        self.assertEqual(laid(old, told), read("[@1, @2]; 'more'; {a=@3, b=@2}; dog{c=@2, d=@4}; 'x'"))

    def test_of_equal_webs(self):
        for web in made_webs(40) + [chain(60), EVERY_KIND]:
            told = slip(web, web)
            self.assertEqual(told, (mark(web), tuple([("old", k) for k in range(len(drawn(web)))])))
            self.assertEqual(laid(web, told), drawn(web))

    def test_it_writes_no_part_that_stayed_and_all_others(self):
        for old, new in web_pairs(300):
            told = slip(old, new)
            stayed = {j: k for k, j in stay_by_the_words(old, new)}
            rows = [("old", stayed[j]) if j in stayed else part for j, part in enumerate(drawn(new))]
            self.assertEqual(told, (mark_by_the_words(old), tuple(rows)))
            self.assertIs(type(told), tuple)
            self.assertIs(type(told[1]), tuple)


class LaidTest(unittest.TestCase):
    def assert_refused(self, web, told):
        with self.assertRaises(WebError) as caught:
            laid(web, told)
        self.assertIs(type(caught.exception), NoBase)

    def test_upon_the_old_web_it_is_the_new_one_settled(self):
        for old, new in web_pairs(500):
            out = laid(old, slip(old, new))
            self.assertEqual(out, drawn(new))
            self.assertIs(is_web(out), True)
            self.assertIs(same(out, new), True)

    def test_upon_one_that_is_the_same(self):
        for number, (old, new) in enumerate(web_pairs(200)):
            maker = Maker(number)
            told = slip(old, new)
            other = renumbered(old + (("text", "unmet"), ("row", (("at", 0),))),
                               [0] + maker.shuffled(range(1, len(old) + 2)))
            self.assertEqual(laid(other, told), drawn(new))
            self.assertEqual(laid(drawn(old), told), drawn(new))

    def test_upon_another_web(self):
        old = read("[@1, @2]; 'a'; [5]")
        told = slip(old, read("[@1, @2]; 'a'; [6]"))
        for text in ("[@1, @2]; 'a'; [6]", "[@1, @2]; 'b'; [5]", "[@1, @2]; 'a'; []", "'a'", "[@1, @1]; 'a'",
                     "[@2, @1]; 'a'; [5]"):
            self.assert_refused(read(text), told)
        count = 0
        for old, new in web_pairs(200):
            if mark_by_the_words(old) != mark_by_the_words(new):
                self.assert_refused(new, slip(old, new))
                count += 1
        self.assertGreater(count, 100)

    def test_another_mark(self):
        old = read("[@1, @2]; 'a'; [5]")
        told = slip(old, old)
        for other in (664, 666, 0, -1, 665 + 65521, 665 - 65521):
            self.assert_refused(old, (other, told[1]))
        self.assertEqual(laid(old, (665, told[1])), old)

    def test_one_behind_the_other(self):
        maker = Maker(4)
        for web in plain_webs(30, 8):
            last = web
            out = web
            for _ in range(6):
                change = maker.changed(last)
                out = laid(out, slip(last, change))
                last = change
            self.assertEqual(out, drawn(last))


class StaysTest(unittest.TestCase):
    def test_what_is_told_is_the_askers_own(self):
        first = stay(EVERY_KIND, EVERY_KIND)
        first.clear()
        self.assertEqual(stay(EVERY_KIND, EVERY_KIND), [(0, 0), (1, 1), (2, 2), (3, 3)])
        for pair in stay(EVERY_KIND, EVERY_KIND):
            self.assertIs(type(pair), tuple)

    def test_what_is_handed_in_stays_and_asked_again_the_same_is_told(self):
        for old, new in web_pairs(40):
            kept = copy.deepcopy((old, new))
            told = slip(old, new)
            held = copy.deepcopy(told)
            out = laid(old, told)
            self.assertEqual(((old, new), told), (kept, held))
            self.assertEqual((slip(kept[0], kept[1]), stay(old, new), mark(old)), (told, stay(kept[0], kept[1]), told[0]))
            self.assertEqual(laid(kept[0], held), out)

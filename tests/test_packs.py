import copy
import unittest

from graphpack.errors import NoPack, WebError
from graphpack.packs import pack, unpacked
from graphpack.same import pairing, same
from graphpack.webs import drawn, is_web, met
from tests.pack_words import LETTERS, digits_of, outcome, outcome_by_the_words, pack_by_the_words
from tests.samples import EVERY_KIND, Hostile, Maker, chain, classes_web, made_webs, names_web, renumbered, ring

FAR = 10 ** 60 - 1

NO_BYTES = (-1, -128, 256, 257, 384, -FAR, FAR, True, False, None, "", "a", "0", 0.0, 3.0, float("nan"), b"a", [], [3],
            (), (3,), {}, ("at", 0), object(), int, Hostile())


def signs(text):
    return [ord(sign) for sign in text]


def row_of(some):
    """The pack of a row of one value that has these bytes."""
    return [23] + some


def spelled_table(names):
    """The bytes of a table of new names, each with None as its value."""
    out = digits_of(4 * (4 * len(names) + 2) + 3)
    for name in names:
        out += [2 * len(name) + 1] + signs(name) + [0]
    return out


def tables_ahead(names):
    """The bytes of a row's beginning: tables that tell all these names first; one value more is to come."""
    tables = [names[start:start + 12] for start in range(0, len(names), 12)]
    out = digits_of(4 * (4 * (len(tables) + 1) + 1) + 3)
    for table in tables:
        out += spelled_table(table)
    return out


def wide_web():
    """Sixty parts with as many long numbers as there can be, and links to and fro."""
    maker = Maker(3)
    parts = []
    for k in range(60):
        some = [maker.below(10 ** 9) ** 6 * (-1) ** place for place in range(10)]
        parts.append(("row", tuple(some) + (("at", (k + 1) % 60), ("at", maker.below(60)))))
    return tuple(parts)


class PackTest(unittest.TestCase):
    def assert_pack(self, web, some):
        self.assertIs(is_web(web), True)
        self.assertEqual(pack(web), some)
        self.assertEqual(unpacked(some), web)

    def test_texts(self):
        self.assert_pack((("text", ""),), [3])
        self.assert_pack((("text", "a"),), [19, 97])
        self.assert_pack((("text", "ab c"),), [67, 97, 98, 32, 99])
        self.assert_pack((("text", "0 z9   "),), [115, 48, 32, 122, 57, 32, 32, 32])
        # From eight signs on the head number has two bytes: 4 * 32 + 3 is 131.
        self.assert_pack((("text", "abcdefgh"),), [129, 3] + signs("abcdefgh"))
        self.assert_pack((("text", "abcdefghijklmnop"),), [130, 3] + signs("abcdefghijklmnop"))
        self.assert_pack((("text", "abcdefghijklmnopqrst"),), [130, 67] + signs("abcdefghijklmnopqrst"))

    def test_rows_of_none_and_numbers(self):
        self.assert_pack((("row", ()),), [7])
        self.assert_pack((("row", (None,)),), [23, 0])
        self.assert_pack((("row", (0, -1, 1, -2, 2)),), [87, 1, 5, 9, 13, 17])
        # The folding of 15 is 30, of -16 31, of 16 32: 4 * 32 + 1 has two bytes.
        self.assert_pack((("row", (15, -16, 16)),), [55, 121, 125, 129, 1])
        self.assert_pack((("row", (1000, -1000)),), [39, 190, 65, 190, 61])
        self.assert_pack((("row", (None,) * 12),), [129, 71] + [0] * 12)
        for number in (FAR, -FAR):
            self.assert_pack((("row", (number, None)),), [39] + digits_of(8 * FAR + (1 if number > 0 else -3)) + [0])

    def test_tables_and_records(self):
        self.assert_pack((("table", ()),), [11])
        self.assert_pack((("record", "7", ()),), [15, 3, 55])
        self.assert_pack((("record", "abcdefgh", ()),), [15, 17] + signs("abcdefgh"))
        self.assert_pack((("table", (("b", None), ("a", 1))),), [43, 3, 98, 0, 3, 97, 9])
        self.assert_pack((("record", "dog", (("a", -7),)),), [31, 7, 100, 111, 103, 3, 97, 53])
        twelve = tuple([(sign, None) for sign in "abcdefghijkl"])
        pairs = []
        for sign in "abcdefghijkl":
            pairs += [3, ord(sign), 0]
        self.assert_pack((("table", twelve),), [129, 75] + pairs)
        self.assert_pack((("record", "m", twelve),), [129, 79, 3, 109] + pairs)

    def test_links_to_the_part_itself(self):
        self.assert_pack(ring(1), [23, 2])
        self.assert_pack((("table", (("a", ("at", 0)), ("b", ("at", 0)))),), [43, 3, 97, 2, 3, 98, 2])
        self.assert_pack((("record", "a", (("a", ("at", 0)),)),), [31, 3, 97, 0, 2])

    def test_links_to_parts_that_stood_before(self):
        self.assert_pack(ring(2), [23, 23, 6])
        self.assert_pack(ring(3), [23, 23, 23, 10])
        # A text twice: the second time it is the part begun last.
        self.assert_pack((("row", (("at", 1), ("at", 1))), ("text", "a")), [39, 19, 97, 2])
        self.assert_pack((("row", (("at", 1), ("at", 0), ("at", 1))), ("text", "a")), [55, 19, 97, 6, 2])
        # Both texts have ended; d counts what was begun behind, not what is still open.
        self.assert_pack((("row", (("at", 1), ("at", 2), ("at", 1), ("at", 2), ("at", 0))), ("text", "a"), ("text", "b")),
                         [87, 19, 97, 19, 98, 6, 2, 10])
        self.assert_pack((("row", (("at", 1), ("at", 2))), ("row", (("at", 0), ("at", 1))), ("row", (("at", 2), ("at", 1)))),
                         [39, 39, 6, 2, 39, 2, 6])

    def test_links_that_lead_far_back(self):
        # From 32 on 4d + 2 has two bytes.
        for count, some in ((32, [126]), (33, [129, 2]), (60, [129, 110])):
            self.assert_pack(ring(count), [23] * count + some)

    def test_parts_that_look_alike_are_written_each(self):
        self.assert_pack((("row", (("at", 1), ("at", 2))), ("text", "a"), ("text", "a")), [39, 19, 97, 19, 97])

    def test_names_that_stood_before(self):
        # The class's name is the pair's, too.
        self.assert_pack((("record", "dog", (("dog", None),)),), [31, 7, 100, 111, 103, 0, 0])
        # e is how many names were told first behind it, not how often others were told.
        self.assert_pack((("record", "dog", (("a", ("at", 1)), ("dog", ("at", 2)), ("c", None))),
                          ("record", "a", (("b", None), ("a", None), ("dog", None))),
                          ("record", "b", (("dog", 0),))),
                         [63, 7, 100, 111, 103, 3, 97, 63, 0, 3, 98, 0, 2, 0, 4, 0, 4, 31, 0, 4, 1, 3, 99, 0])
        # A pair's name comes ahead of its value's names.
        self.assert_pack((("table", (("a", ("at", 1)), ("b", None))), ("table", (("b", None), ("a", None)))),
                         [43, 3, 97, 43, 3, 98, 0, 2, 0, 0, 0])

    def test_names_that_begin_alike_are_others(self):
        self.assert_pack((("record", "a", (("aa", None), ("ab", None), ("b", None), ("a", None))),),
                         [79, 3, 97, 5, 97, 97, 0, 5, 97, 98, 0, 3, 98, 0, 6, 0])

    def test_sixty_names(self):
        web = (("row", tuple([("at", k) for k in range(1, 6)])),) + names_web(60)[:5]
        self.assertEqual(unpacked(pack(web)), web)
        # The class stands first of all: behind the fifty-ninth other name it has the number 2 * 59.
        some = tables_ahead(["dog"] + ["n" + LETTERS[k // 10] + LETTERS[k % 10] for k in range(59)])
        web = unpacked(some + [31, 118, 118, 0])
        self.assertEqual(web[-1], ("record", "dog", (("dog", None),)))
        self.assertEqual(pack(web), some + [31, 118, 118, 0])

    def test_every_kind(self):
        some = [63, 7, 100, 111, 103, 3, 97, 53, 3, 98, 71, 9, 67, 97, 98, 32, 99, 0, 43, 2, 9, 0, 14, 5, 99, 57, 0]
        self.assert_pack(EVERY_KIND[:4], some)
        self.assertEqual(pack(EVERY_KIND), some)

    def test_a_web_drawn_otherwise_has_the_same_pack(self):
        web = (("row", (("at", 2), ("at", 1))), ("text", "a"), ("row", (("at", 1), 5)))
        other = (("row", (("at", 4), ("at", 3))), ("table", (("zz", ("at", 0)),)), ("text", "unmet"), ("text", "a"),
                 ("row", (("at", 3), 5)))
        self.assertEqual(pack(web), [39, 39, 19, 97, 41, 2])
        self.assertEqual(pack(other), pack(web))
        self.assertEqual(unpacked(pack(other)), drawn(web))

    def test_sixty_parts(self):
        self.assertEqual(unpacked(pack(chain(60))), chain(60))
        self.assertEqual(unpacked(pack(ring(60))), ring(60))
        web = (("row", tuple([("at", k) for k in range(1, 11)])),) + (("row", tuple([None] * 12)),) * 10
        self.assertEqual(unpacked(pack(web)), web)

    def test_against_the_words(self):
        for web in made_webs(400) + [classes_web(60), names_web(60), chain(60), ring(60), wide_web(), EVERY_KIND]:
            with self.subTest(web=web):
                self.assertEqual(pack(web), pack_by_the_words(web))
                self.assertEqual(outcome_by_the_words(pack(web)), drawn(web))

    def test_beyond_the_bounds_of_webs_nothing_is_refused(self):
        for web in (chain(61), chain(70), (("row", (None,) * 13),), (("text", "a" * 21),), (("record", "abcdefghi", ()),),
                    (("table", tuple([("n" + str(k), None) for k in range(80)]) + (("m", ("at", 1)),)),
                     ("record", "n0", ())), (("row", (FAR * FAR,)),)):
            some = pack(web)
            self.assertEqual(len([byte for byte in some if 0 <= byte <= 255]), len(some))

    def test_kinds(self):
        for web in made_webs(60):
            some = pack(web)
            self.assertIs(type(some), list)
            self.assertTrue(all(type(byte) is int and 0 <= byte <= 255 for byte in some))


class ThereAndBackTest(unittest.TestCase):
    def test_settled_webs_and_others(self):
        settled = 0
        for web in made_webs(500) + [EVERY_KIND, wide_web(), classes_web(60)]:
            told = unpacked(pack(web))
            self.assertEqual(told, drawn(web))
            self.assertIs(is_web(told), True)
            self.assertEqual(drawn(told), told)
            settled += drawn(web) == web
        self.assertTrue(50 < settled < 450, settled)

    def test_there_is_just_one_pairing_with_the_old_web(self):
        for web in made_webs(200):
            told = unpacked(pack(web))
            self.assertEqual(pairing(web, told), sorted([(k, number) for number, k in enumerate(met(web))]))

    def test_two_webs_are_the_same_just_where_their_packs_are_equal(self):
        maker = Maker(17)
        alike = 0
        for web in made_webs(200):
            numbers = [0] + maker.shuffled(range(1, len(web)))
            others = [renumbered(web, numbers), maker.changed(web), web + (("text", "zz"),), maker.web(),
                      maker.changed(renumbered(web, numbers))]
            for other in others:
                self.assertEqual(pack(web) == pack(other), same(web, other))
                alike += same(web, other)
        self.assertTrue(400 < alike < 900, alike)

    def test_no_two_small_webs_that_are_not_the_same_have_equal_packs(self):
        packs = {}
        for seed in range(3000):
            web = drawn(Maker(seed).plain_web(3))
            self.assertEqual(packs.setdefault(tuple(pack(web)), web), web)
        self.assertEqual(len(packs), len(set(packs.values())))

    def test_numbers_of_any_length(self):
        for number in (0, 1, -1, 15, 16, -16, -17, 2047, 2048, -2048, -2049, FAR, -FAR, 10 ** 59, FAR * FAR, -FAR ** 9):
            web = (("row", (number, None, number)),)
            self.assertEqual(unpacked(pack(web)), web)

    def test_bytes_may_tell_greater_numbers_than_are_handed_in(self):
        some = row_of([255] * 3000 + [1])
        web = unpacked(some)
        self.assertEqual(pack(web), some)
        self.assertEqual(web[0][1][0], (128 ** 3001 - 128) // 8)

    def test_each_number_in_bytes_is_a_value_of_its_own(self):
        told = [unpacked(row_of(digits_of(4 * f + 1)))[0][1][0] for f in range(500)]
        self.assertEqual(sorted(told), list(range(-250, 250)))


class RefusedTest(unittest.TestCase):
    def assert_refused(self, some, at):
        with self.assertRaises(WebError) as caught:
            unpacked(some)
        self.assertIs(type(caught.exception), NoPack)
        self.assertIs(type(caught.exception.at), int)
        self.assertEqual(caught.exception.at, at)
        self.assertEqual(outcome_by_the_words(some), at)

    def assert_told(self, some):
        self.assertEqual(pack(unpacked(some)), some)

    def test_no_bytes_and_bytes_behind_the_end(self):
        self.assert_refused([], 0)
        for byte in (0, 3, 97, 128, 255):
            self.assert_refused([3, byte], 1)
            self.assert_refused([23, 2, byte], 2)
        self.assert_refused([3, 3], 1)
        self.assert_refused([3, None], 1)
        self.assert_refused([3, 7, 999], 1)

    def test_cut_off(self):
        for web in made_webs(60) + [EVERY_KIND, ring(40), classes_web(5)]:
            some = pack(web)
            for count in range(len(some)):
                self.assert_refused(some[:count], count)

    def test_the_root_is_a_new_part(self):
        # None, a number, and links to what was not begun.
        for byte in (0, 1, 5, 9, 2, 6, 4, 8, 125, 126):
            self.assert_refused([byte], 0)
            self.assert_refused([byte, 3], 0)

    def test_which_heads_the_root_may_have(self):
        heads = [tuple(digits_of(4 * (4 * n + c) + 3)) for c in range(4) for n in range(21 if c == 0 else 13)]
        for first in range(256):
            if first < 128:
                at = 0 if (first,) not in heads else 1
                self.assertEqual(outcome([first]) == 0, at == 0, first)
            else:
                self.assert_refused([first], 1 if first in (129, 130) else 0)
        for first in (129, 130):
            for second in range(256):
                self.assertEqual(outcome([first, second, None]), 2 if (first, second) in heads else 1)

    def test_a_thirteenth_value_or_pair(self):
        for c in (1, 2, 3):
            head = digits_of(4 * (4 * 13 + c) + 3)
            self.assert_refused(head + [0] * 40, 1)
            self.assert_refused(row_of(head), 2)
            self.assert_refused(row_of(digits_of(4 * (4 * 14 + c) + 3)), 2)
            self.assert_refused(row_of(digits_of(4 * (4 * 2000 + c) + 3)), 3)
            self.assert_refused(row_of(digits_of(4 * (4 * 12 + c) + 3)), 3)
        # Behind twelve values the row has ended.
        self.assert_told([129, 71] + [0] * 12)
        self.assert_refused([129, 71] + [0] * 13, 14)

    def test_a_text_of_twenty_one_signs(self):
        self.assert_told([130, 67] + [97] * 20)
        self.assert_refused([130, 67] + [97] * 21, 22)
        self.assert_refused([130, 83] + [97] * 21, 1)
        self.assert_refused(row_of([130, 83]) + [97] * 21, 2)
        self.assert_refused([131, 3], 0)
        # As a value the first byte may be that of a whole number.
        self.assert_refused(row_of([131, 3]), 2)
        self.assert_told(row_of([131, 1]))

    def test_signs_that_no_word_has(self):
        for byte in range(256):
            for some in ([35], [35, 97]):
                word = byte < 128 and chr(byte) in LETTERS + " "
                if word:
                    self.assertEqual(outcome(some + [byte, 300]), len(some) + 1)
                else:
                    self.assert_refused(some + [byte, 97], len(some))

    def test_signs_that_no_name_has(self):
        for byte in range(256):
            for some in ([15, 5], [15, 5, 97], [27, 5], [27, 5, 97], [31, 3, 97, 5]):
                if byte < 128 and chr(byte) in LETTERS:
                    self.assertNotEqual(outcome(some + [byte, 300]), len(some))
                else:
                    self.assert_refused(some + [byte, 97], len(some))

    def test_a_name_of_no_sign_or_of_nine(self):
        for some in ([15], [27], [31, 3, 97]):
            self.assert_refused(some + [1], len(some))
            self.assert_refused(some + [19] + signs("abcdefghi"), len(some))
            self.assert_refused(some + [21], len(some))
            self.assert_refused(some + [127], len(some))
            self.assertEqual(outcome(some + [17] + signs("abcdefgh") + [None]), len(some) + 9)

    def test_no_number_of_a_name_has_two_bytes(self):
        for byte in range(128, 256):
            for some in ([15], [27], [31, 3, 97]):
                self.assert_refused(some + [byte, 0], len(some))

    def test_a_first_byte_128(self):
        self.assert_refused([128], 0)
        self.assert_refused([128, 3], 0)
        self.assert_refused([128, 128, 3], 0)
        self.assert_refused(row_of([128, 0]), 1)
        self.assert_refused(row_of([128, 129, 1]), 1)
        self.assert_refused([39, 0, 128, 1], 2)
        self.assert_refused([15, 128, 3, 97], 1)
        self.assert_refused([27, 3, 97, 128, 0], 3)
        # Behind the first byte it is a digit like others.
        self.assert_told(row_of([129, 128, 1]))
        self.assert_told(row_of([255, 128, 128, 1]))

    def test_head_numbers_that_are_none(self):
        # 4 and its like are told by no value, but where 4 leaves nothing over it is None, and 0 alone.
        for number in (4, 8, 12, 64, 124, 128, 256, 4 * 128, 4 * 128 * 128):
            some = digits_of(number)
            self.assert_refused(row_of(some), len(some))

    def test_a_link_to_a_part_that_was_not_begun(self):
        self.assert_told(row_of([2]))
        self.assert_refused(row_of([6]), 1)
        self.assert_refused(row_of([10]), 1)
        self.assert_refused(row_of([129, 2]), 2)
        self.assert_refused(row_of([23, 10]), 2)
        self.assert_told(row_of([23, 6]))
        self.assert_told([23] * 60 + [129, 110])
        self.assert_refused([23] * 60 + [129, 114], 61)
        self.assert_refused([23] * 32 + [129, 2], 33)
        self.assert_told([23] * 33 + [129, 2])

    def test_a_name_number_that_leads_behind_the_first_name(self):
        self.assert_refused([15, 0], 1)
        self.assert_refused([27, 0, 0], 1)
        self.assert_refused([31, 3, 97, 2, 0], 3)
        self.assert_told([31, 3, 97, 0, 0])
        self.assert_refused([27, 3, 97, 31, 2], 4)
        self.assert_refused([27, 3, 97, 27, 2], 4)
        self.assert_told([43, 3, 97, 0, 3, 98, 27, 2, 0])
        self.assert_refused([43, 3, 97, 0, 3, 98, 27, 4, 0], 7)

    def test_a_name_twice_in_one_table(self):
        self.assert_refused([43, 3, 97, 0, 0, 0], 4)
        self.assert_refused([59, 3, 97, 0, 3, 98, 0, 2, 0], 7)
        self.assert_refused([59, 3, 97, 0, 3, 98, 0, 0, 0], 7)
        self.assert_refused([47, 7, 100, 111, 103, 0, 0, 0, 0], 7)
        # In the part that is held it may stand, and the pairs behind are those of the holder again.
        self.assert_told([43, 3, 97, 27, 0, 0, 3, 98, 0])
        self.assert_refused([43, 3, 97, 27, 0, 0, 0, 0], 6)
        self.assert_told([43, 3, 97, 27, 3, 98, 0, 0, 0])
        # The class is no pair's name.
        self.assert_told([47, 3, 97, 0, 0, 3, 98, 0])

    def test_a_name_told_as_new_that_is_not(self):
        self.assert_refused([43, 3, 97, 0, 3, 97, 0], 5)
        self.assert_refused([31, 7, 100, 111, 103, 7, 100, 111, 103, 0], 8)
        self.assert_told([31, 7, 100, 111, 103, 7, 100, 111, 104, 0])
        self.assert_told([31, 7, 100, 111, 103, 5, 100, 111, 0])
        self.assert_told([31, 7, 100, 111, 103, 9, 100, 111, 103, 103, 0])
        self.assert_refused([27, 17] + signs("abcdefgh") + [31, 17] + signs("abcdefgh"), 19)
        self.assert_refused([39] + [15, 3, 97] + [15, 3, 97], 6)

    def test_all_names_of_one_sign_but_one(self):
        for left in "0a9z":
            some = tables_ahead([sign for sign in LETTERS if sign != left])
            for sign in LETTERS:
                if sign == left:
                    self.assert_told(some + [15, 3, ord(sign)])
                else:
                    self.assert_refused(some + [15, 3, ord(sign)], len(some) + 2)

    def test_all_names_of_one_sign(self):
        some = tables_ahead(list(LETTERS))
        self.assert_refused(some + [15, 3, 97], len(some) + 1)
        self.assert_refused(some + [27, 3, 97, 0], len(some) + 1)
        self.assert_refused(some + [15, 3], len(some) + 1)
        for sign in LETTERS:
            self.assert_told(some + [15, 5, ord(sign), 97])

    def test_all_names_that_begin_so(self):
        for beginning in ("b", "0z", "abcdefg"):
            number = 2 * len(beginning) + 3
            some = tables_ahead([beginning + sign for sign in LETTERS])
            at = len(some) + 1 + len(beginning)
            self.assert_refused(some + [15, number] + signs(beginning) + [97], at)
            self.assert_refused(some + [27, number] + signs(beginning), at)
            self.assert_told(some + [15, number - 2] + signs(beginning))
            self.assert_told(some + [15, number] + signs("c" + beginning[1:] + "7"))
            if number < 17:
                self.assert_told(some + [15, number + 2] + signs(beginning + "77"))
            but_one = tables_ahead([beginning + sign for sign in LETTERS if sign != "k"])
            self.assert_told(but_one + [15, number] + signs(beginning + "k"))
            self.assert_refused(but_one + [15, number] + signs(beginning + "j"), len(but_one) + 2 + len(beginning))

    def test_a_sixty_first_name(self):
        names = [first + second for first in "ab" for second in LETTERS]
        some = tables_ahead(names[:60])
        for m in range(1, 9):
            self.assert_refused(some + [15, 2 * m + 1] + [99] * m, len(some) + 1)
            self.assert_refused(some + [27, 2 * m + 1] + [99] * m + [0], len(some) + 1)
        self.assert_told(some + [15, 118])
        self.assert_refused(some + [15, 120], len(some) + 1)
        some = tables_ahead(names[:59])
        self.assert_told(some + [15, 3, 99])
        self.assert_refused(some + [31, 3, 99, 3, 100], len(some) + 3)
        self.assert_told(some + [31, 3, 99, 0, 0])

    def test_a_sixty_first_part(self):
        self.assert_told([23] * 59 + [3])
        self.assert_refused([23] * 60 + [3], 60)
        self.assert_refused([23] * 60 + [129, 3], 61)
        self.assert_told([23] * 60 + [2])
        self.assert_told([23] * 60 + [0])
        self.assert_refused(pack(chain(61)), len(pack(chain(61))) - 4)
        # Sixty-one parts that don't stand within each other.
        wide = (("row", tuple([("at", k) for k in range(1, 7)])),)
        wide += tuple([("row", tuple([("at", 7 + 9 * k + j) for j in range(9)])) for k in range(6)])
        wide += (("text", ""),) * 54
        self.assert_refused(pack(wide), 1 + 5 * 11 + 2 + 8)
        self.assert_told(pack(wide)[:-1] + [0])

    def test_things_that_are_no_bytes_at_each_place(self):
        for web in (EVERY_KIND, (("text", "abcdefghij"),), ring(3), (("row", (FAR, -FAR)),)):
            some = pack(web)
            for place in range(len(some) + 1):
                for thing in NO_BYTES:
                    for things in (some[:place] + [thing] + some[place:], some[:place] + [thing] + some[place + 1:],
                                   some[:place] + [thing, thing]):
                        with self.assertRaises(NoPack) as caught:
                            unpacked(things)
                        self.assertEqual(caught.exception.at, place)

    def test_what_comes_first_is_refused(self):
        self.assert_refused([0, None], 0)
        self.assert_refused([None, 0], 0)
        self.assert_refused([23, 4, None, 300], 1)
        self.assert_refused([23, 300, 4], 1)
        self.assert_refused([300], 0)
        self.assert_refused([True], 0)

    def test_ints_of_other_classes_are_bytes(self):
        class Number(int):
            pass

        self.assertEqual(unpacked([Number(byte) for byte in pack(EVERY_KIND)]), EVERY_KIND[:4])


class ChangedBytesTest(unittest.TestCase):
    """For each byte of a pack: left out, put in, changed, cut off behind."""

    def check(self, some):
        told = outcome(some)
        self.assertEqual(told, outcome_by_the_words(some), some)
        if isinstance(told, tuple):
            self.assertEqual(pack(told), some)
            self.assertEqual(drawn(told), told)
            self.assertIs(is_web(told), True)

    def check_changes(self, some, others):
        for place in range(len(some) + 1):
            self.check(some[:place])
            self.check(some[:place] + some[place + 1:])
            for byte in others:
                self.check(some[:place] + [byte] + some[place:])
                if place < len(some):
                    self.check(some[:place] + [byte] + some[place + 1:])

    def test_each_byte_by_each(self):
        for web in (EVERY_KIND, ring(2), (("row", (FAR, ("at", 0))),), (("record", "a", (("a", ("at", 0)), ("b", 900))),)):
            self.check_changes(pack(web), range(256))

    def test_many_packs(self):
        maker = Maker(23)
        for web in made_webs(60):
            some = pack(web)
            self.check_changes(some, [maker.below(256) for _ in range(3)] + [0, 3, 97, 128, 129])

    def test_near_the_bounds(self):
        maker = Maker(29)
        names = [first + second for first in "ab" for second in LETTERS]
        for some in (tables_ahead(list(LETTERS)) + [27, 5, 97, 97, 0], tables_ahead(names[:59]) + [31, 3, 97, 0, 0],
                     [23] * 58 + [39, 23, 129, 102, 2], tables_ahead(names[:60]) + [27, 118, 0]):
            self.assertEqual(pack(unpacked(some)), some)
            for place in range(len(some)):
                for byte in (97, maker.below(256)):
                    self.check(some[:place] + [byte] + some[place + 1:])
            for place in range(len(some) - 5, len(some)):
                for byte in range(0 if place > len(some) - 4 else 97, 130):
                    self.check(some[:place] + [byte] + some[place + 1:])

    def test_all_short_rows_of_bytes(self):
        for first in range(256):
            self.check([first])
            for second in range(0, 256, 1 if first in (23, 129, 130) else 7):
                self.check([first, second])
        for head in (15, 19, 23, 27, 31):
            for second in (0, 2, 3, 5, 23, 97, 129):
                for third in range(256):
                    self.check([head, second, third])


class StaysTest(unittest.TestCase):
    def test_what_is_handed_in_stays(self):
        for web in made_webs(40) + [EVERY_KIND]:
            was = copy.deepcopy(web)
            some = pack(web)
            again = list(some)
            unpacked(some)
            self.assertEqual((web, some), (was, again))
        bad = [23, 4, None]
        outcome(bad)
        self.assertEqual(bad, [23, 4, None])

    def test_what_is_told_is_the_askers_own(self):
        some = pack(EVERY_KIND)
        told = unpacked(some)
        was = list(some)
        some.append(9)
        some[0] = 0
        self.assertEqual(pack(EVERY_KIND), was)
        self.assertEqual(told, EVERY_KIND[:4])
        self.assertEqual(unpacked(was), told)

    def test_asked_again_the_same_is_told(self):
        for web in made_webs(60):
            self.assertEqual(pack(web), pack(copy.deepcopy(web)))
            self.assertEqual(unpacked(pack(web)), unpacked(pack(web)))
        self.assertEqual(outcome([23, 23, 4]), 2)
        self.assertEqual(outcome([23, 23, 4]), 2)

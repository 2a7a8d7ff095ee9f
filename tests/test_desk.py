import itertools
import re
import unittest

from graphpack.copies import copied, put
from graphpack.desk import Desk
from graphpack.errors import NoBase, NoName, NoPack, NoPlace, NoRow, NoText, NoValue, NoWay, TooMany, WebError
from graphpack.looks import least, parting_way
from graphpack.packs import pack, unpacked
from graphpack.same import parted
from graphpack.slips import laid, slip
from graphpack.texts import read, shown
from graphpack.ways import value_at
from graphpack.webs import drawn
from tests.samples import EVERY_KIND, Hostile, Maker, chain, made_webs, ring

LONG = "1" * 60
TOO_LONG = "1" * 61

# A goes round by its table; B is A with another number; C is the same as A, drawn otherwise; D has two like texts.
A = "[@1, 5, nil, @2]; 'x'; {n=@0, m=-7}"
B = "[@1, 6, nil, @2]; 'x'; {n=@0, m=-7}"
C = "[@3, 5, nil, @1]; {n=@0, m=-7}; 'unmet'; 'x'"
D = "[@1, @2]; 'd'; 'd'"

NO_TEXTS = (None, 5, True, 1.5, b"show a", ["show", "a"], ("show", "a"), {"show": "a"}, object(), Hostile(), Desk, len)

# The kinds of the words behind the first one, for each row.
ROWS = {
    "web": ("new", "text"), "draw": ("new", "name", "number"), "least": ("new", "name"),
    "put": ("new", "name", "number", "number", "value"), "unpack": ("new", "hex"),
    "change": ("new", "name", "name", "name"), "drop": ("name",), "copy": ("new", "name", "number"), "show": ("name",),
    "pack": ("name",), "at": ("name", "way"), "same": ("name", "name"), "looks": ("name", "number", "number"),
}

# Of each kind what is one, for the desk of these tests, and what is none.
GOOD = {"new": "z", "name": "a", "number": "0", "value": "nil", "text": "'t'", "hex": "03", "way": "-"}
NO_NAMES = ("", "A", "aB", "abcdefghi", "a_b", "-", "@1", "'a'", "a.b")
BAD = {
    "new": NO_NAMES,
    "name": NO_NAMES + ("none", "aa", "z"),
    "number": ("", "01", "00", "-1", "-0", "+1", "-", "x", "1x", "0x1", "1.0", "1_0", "@0", "nil", TOO_LONG),
    "value": ("", "01", "-0", "-01", "+1", "-", "@", "@-1", "@01", "@x", "@@0", "Nil", "nill", "None", "1.0", "'x'", "[]",
              TOO_LONG, "-" + TOO_LONG, "@" + TOO_LONG),
    "text": ("", " ", "x", "[", "[01]", "[1,2]", "[@1]", "'t' ", " 't'", "'t';'t'", "[1,  2]", "'T'", "{a=1, a=2}", "-0"),
    "hex": ("0", "030", "0G", "g0", "AB", "aB", "Ab", "0x", "--", "0.", "+3"),
    "way": ("", ".", "0.", ".0", "0..0", "--", "-.0", "0.-", "-1", "0.-1", "01", "0.01", "x", "0,0", "@0", "nil", TOO_LONG,
            "0." + TOO_LONG),
}
FAULTS = {"new": NoName, "name": NoName, "number": NoRow, "way": NoRow, "value": NoText, "text": NoText, "hex": NoText}


def shown_hex(some):
    return "".join([f"{byte:02x}" for byte in some])


def started():
    desk = Desk()
    for name, text in (("a", A), ("b", B), ("c", C), ("d", D)):
        desk.say("web " + name + " " + text)
    return desk


def standing(desk, names=("a", "b", "c", "d", "z", "none", "aa")):
    """What stands by these names."""
    out = {}
    for name in names:
        try:
            out[name] = desk.say("show " + name)
        except NoName:
            out[name] = None
    return out


class DeskCase(unittest.TestCase):
    def assert_says(self, desk, *rows):
        for row, answer in rows:
            told = desk.say(row)
            self.assertEqual((row, told), (row, answer))
            self.assertIs(type(told), str)

    def assert_refused(self, desk, row, refusal, at=None):
        ahead = standing(desk)
        with self.assertRaises(WebError, msg=row) as caught:
            desk.say(row)
        self.assertIs(type(caught.exception), refusal, row)
        if at is not None:
            self.assertEqual(caught.exception.at, at, row)
        self.assertEqual(standing(desk), ahead, row)


class RowsTest(DeskCase):
    def test_web_and_show(self):
        desk = Desk()
        for number, text in enumerate((A, B, C, D, "''", "'a b  c'", "'  '", "[]; {}; dog{}", "[nil, -7, " + LONG + "]")):
            self.assert_says(desk, ("web n" + str(number) + " " + text, "ok"), ("show n" + str(number), text))
        self.assert_says(desk, ("show n0", A), ("web n0 'other'", "ok"), ("show n0", "'other'"), ("show n1", B))

    def test_names_may_be_first_words_and_figures(self):
        desk = Desk()
        for name in list(ROWS) + ["ok", "yes", "0", "00", "12345678", "abcdefgh"]:
            self.assert_says(desk, ("web " + name + " '" + name + "'", "ok"), ("show " + name, "'" + name + "'"),
                             ("least " + name + " " + name, "ok"), ("pack " + name, shown_hex(pack((("text", name),)))))

    def test_draw(self):
        desk = started()
        self.assert_says(desk, ("draw z c 0", "ok"), ("show z", "[@1, 5, nil, @2]; 'x'; {n=@0, m=-7}"),
                         ("draw z c 1", "ok"), ("show z", "{n=@1, m=-7}; [@2, 5, nil, @0]; 'x'"),
                         ("draw z c 2", "ok"), ("show z", "'unmet'"), ("show c", C))

    def test_least(self):
        desk = started()
        self.assert_says(desk, ("least z d", "ok"), ("show z", "[@1, @1]; 'd'"), ("show d", D),
                         ("web r [@1]; [@2]; [@0]", "ok"), ("least r r", "ok"), ("show r", "[@0]"))

    def test_put(self):
        desk = started()
        self.assert_says(desk, ("put z a 0 1 7", "ok"), ("show z", "[@1, 7, nil, @2]; 'x'; {n=@0, m=-7}"),
                         ("put z a 2 0 @1", "ok"), ("show z", "[@1, 5, nil, @2]; 'x'; {n=@1, m=-7}"),
                         ("put z a 2 1 nil", "ok"), ("show z", "[@1, 5, nil, @2]; 'x'; {n=@0, m=nil}"),
                         ("put z a 0 0 -" + LONG, "ok"), ("show z", "[-" + LONG + ", 5, nil, @2]; 'x'; {n=@0, m=-7}"),
                         ("put z a 0 2 0", "ok"), ("show z", "[@1, 5, 0, @2]; 'x'; {n=@0, m=-7}"), ("show a", A))

    def test_unpack_and_pack(self):
        desk = started()
        self.assert_says(desk, ("unpack z 03", "ok"), ("show z", "''"), ("pack z", "03"),
                         ("unpack z 27136102", "ok"), ("show z", "[@1, @1]; 'a'"), ("pack z", "27136102"),
                         ("unpack z 37797d8101", "ok"), ("show z", "[15, -16, 16]"), ("pack z", "37797d8101"),
                         ("pack d", "2713641364"), ("pack a", desk.say("pack c")))
        # A number that is greater than those that are handed in.
        self.assert_says(desk, ("unpack z 17" + "ff" * 100 + "01", "ok"), ("pack z", "17" + "ff" * 100 + "01"))

    def test_every_byte_in_hex(self):
        desk = Desk()
        # Whole numbers whose bytes go through all from 129 on, and through each that may end one; and all signs.
        packs = [[23, first, last] for first in range(129, 256) for last in (1, 5, 61, 125)]
        packs += [[23, last] for last in range(1, 128, 4)] + [[23, 129, 128, 1]]
        packs += [[19, ord(sign)] for sign in " 0123456789abcdefghijklmnopqrstuvwxyz"]
        for some in packs:
            self.assert_says(desk, ("unpack n " + shown_hex(some), "ok"), ("pack n", shown_hex(some)),
                             ("show n", shown(unpacked(some))))

    def test_change(self):
        desk = started()
        self.assert_says(desk, ("change z a b a", "ok"), ("show z", B), ("change z a b c", "ok"), ("show z", B),
                         ("change z a d c", "ok"), ("show z", D), ("change z c a a", "ok"), ("show z", A),
                         ("change z a c a", "ok"), ("show z", "[@1, 5, nil, @2]; 'x'; {n=@0, m=-7}"),
                         ("show a", A), ("show b", B), ("show c", C))

    def test_drop(self):
        desk = started()
        self.assert_says(desk, ("drop a", "ok"), ("show b", B))
        self.assert_refused(desk, "show a", NoName)
        self.assert_refused(desk, "drop a", NoName)
        self.assert_says(desk, ("web a 'again'", "ok"), ("show a", "'again'"))

    def test_copy(self):
        desk = started()
        self.assert_says(desk, ("copy z d 0", "3"), ("show z", D + "; [@4, @5]; 'd'; 'd'"),
                         ("copy z d 1", "3"), ("show z", D + "; 'd'"),
                         ("copy z d 0 1", "3"), ("show z", D + "; [@1, @4]; 'd'"),
                         ("copy z d 0 2 1 2", "3"), ("show z", D + "; [@1, @2]"),
                         ("copy z d 1 1", "1"), ("show z", D), ("copy z d 0 0", "0"), ("show z", D),
                         ("copy z a 2 0", "3"), ("show z", A + "; {n=@0, m=-7}"), ("show d", D), ("show a", A))

    def test_at(self):
        desk = started()
        self.assert_says(desk, ("at a -", "@0"), ("at a 0", "@1"), ("at a 1", "5"), ("at a 2", "nil"), ("at a 3", "@2"),
                         ("at a 3.1", "-7"), ("at a 3.0", "@0"), ("at a 3.0.3.0.1", "5"), ("at c 0", "@3"),
                         ("at b 3.0.1", "6"))
        web = (("row", (None,) * 11 + (("at", 0),)),)
        self.assert_says(desk, ("web z " + shown(web), "ok"), ("at z 11", "@0"), ("at z 11.11.10", "nil"))

    def test_same(self):
        desk = started()
        self.assert_says(desk, ("same a a", "yes"), ("same a c", "yes"), ("same c a", "yes"), ("same a b", "value 1"),
                         ("same a d", "value -"), ("web z [@1, @1]; 'd'", "ok"), ("same d z", "shared 0 1"),
                         ("same z d", "shared 0 1"),
                         ("web p [@1, @2]; [@2, @0]; 'd'", "ok"), ("web q [@1, @2]; [@3, @0]; 'd'; 'd'", "ok"),
                         ("same p q", "shared 1 0.0"), ("web r [@1]; [@1]", "ok"), ("web s [@0]", "ok"),
                         ("same r s", "shared - 0"),
                         ("web t [@1]; {a=1, b=@0, c=2}", "ok"), ("web u [@1]; {a=1, b=@0, c=3}", "ok"),
                         ("same t u", "value 0.2"))

    def test_looks(self):
        desk = started()
        self.assert_says(desk, ("looks d 1 2", "yes"), ("looks d 1 1", "yes"), ("looks d 0 1", "-"), ("looks a 0 2", "-"),
                         ("web z [@1, @2]; [@3, 5]; [@4, 5]; {a=1, b=7}; {a=1, b=8}", "ok"), ("looks z 1 2", "0.1"),
                         ("looks z 3 4", "1"), ("looks z 2 1", "0.1"),
                         ("web r [@1, @0]; [@0, @1]", "ok"), ("looks r 0 1", "yes"))

    def test_new_may_be_one_of_the_others(self):
        for row, name, text in (("draw c c 1", "c", "{n=@1, m=-7}; [@2, 5, nil, @0]; 'x'"),
                                ("least d d", "d", "[@1, @1]; 'd'"), ("put a a 0 1 nil", "a", A.replace("5", "nil")),
                                ("change a a b c", "a", B), ("change b a b c", "b", B), ("change c a b c", "c", B),
                                ("change a a b a", "a", B), ("change d a d c", "d", D), ("change a a a a", "a", A),
                                ("web a " + D, "a", D), ("unpack b 03", "b", "''")):
            desk = started()
            kept = standing(desk)
            self.assert_says(desk, (row, "ok"))
            kept[name] = text
            self.assertEqual(standing(desk), kept, row)
        desk = started()
        self.assert_says(desk, ("copy d d 0 1", "3"), ("show d", D + "; [@1, @4]; 'd'"))

    def test_sixty_parts_and_long_rows(self):
        desk = Desk()
        for web in (chain(60), ring(60), EVERY_KIND):
            self.assert_says(desk, ("web a " + shown(web), "ok"), ("show a", shown(web)), ("least b a", "ok"),
                             ("unpack c " + shown_hex(pack(web)), "ok"), ("same a c", "yes"))
        self.assert_says(desk, ("web a " + shown(ring(60)), "ok"), ("at a " + ".".join(["0"] * 2000), "@20"),
                         ("looks a 0 59", "yes"), ("web a " + shown(ring(59)), "ok"),
                         ("copy b a 0 " + " ".join([str(k) for k in range(1, 59)] * 20), "59"), ("at b -", "@0"))


class NoRowTest(DeskCase):
    def test_what_is_no_text(self):
        for thing in NO_TEXTS:
            for desk in (Desk(), started()):
                with self.assertRaises(WebError) as caught:
                    desk.say(thing)
                self.assertIs(type(caught.exception), NoRow)

    def test_a_first_word_that_is_none(self):
        desk = started()
        for row in ("", " ", "  ", "a", "ok", "Show a", "SHOW a", "shows a", "sho a", " show a", "show\ta", "say a", "met a",
                    "drawn z a 0", "webs z 't'", "web,z,'t'", "read z 't'", "new z 't'", "text", "hex z 03", "number"):
            self.assert_refused(desk, row, NoRow)

    def test_words_lacking(self):
        desk = started()
        for word, kinds in ROWS.items():
            for count in range(len(kinds)):
                self.assert_refused(desk, " ".join([word] + [GOOD[kind] for kind in kinds[:count]]), NoRow)

    def test_words_too_many(self):
        for word, kinds in ROWS.items():
            row = " ".join([word] + [GOOD[kind] for kind in kinds])
            self.assertIs(type(started().say(row)), str)
            if word == "copy":
                self.assertEqual(started().say(row + " 0"), "0")
            elif word == "web":
                # All that follows the second blank is its text.
                self.assert_refused(started(), row + " 0", NoText)
            else:
                for more in ("0", "a", "'t'", "-", "0 0"):
                    self.assert_refused(started(), row + " " + more, NoRow)

    def test_two_blanks_and_a_blank_at_an_end(self):
        desk = started()
        for row in ("show  a", "show a ", " show a", "show a  ", "same a  b", "same  a b", "same a b ", "at a - ",
                    "at a  -", "put z a 0  1 7", "put z a 0 1 7 ", "least z a ", "draw z a 0 ", "drop a ", "drop  a",
                    "looks a 0 1 ", "looks  a 0 1", "unpack z 03 ", "unpack z  03", "pack a ", "change z a b c "):
            self.assert_refused(desk, row, NoRow)
        # A word without signs in the place of another one is none of its kind.
        self.assert_refused(desk, "same a ", NoName)
        self.assert_refused(desk, "same  a", NoName)
        self.assert_refused(desk, "show ", NoName)
        self.assert_refused(desk, "web  't'", NoName)
        self.assert_refused(desk, "web z ", NoText)
        self.assert_refused(desk, "web z  't'", NoText)
        self.assert_refused(desk, "web z 't' ", NoText)
        self.assert_refused(desk, "at a ", NoRow)
        self.assert_refused(desk, "draw z a ", NoRow)
        self.assert_refused(desk, "put z a 0 1 ", NoText)
        self.assert_refused(desk, "copy z a 0 ", NoRow)
        self.assert_refused(desk, "copy z a 0  1", NoRow)
        self.assert_refused(desk, "unpack z ", NoPack, 0)
        self.assert_refused(desk, "unpack z", NoRow)
        self.assert_refused(desk, "web z", NoRow)
        self.assert_refused(desk, "web ", NoRow)
        self.assert_refused(desk, "web", NoRow)

    def test_the_number_of_words_comes_ahead_of_all_else(self):
        desk = started()
        for row in ("show A a", "same none", "draw Z none", "put z a 0 1", "put Z a x 1 nil nil", "change Z none none",
                    "drop", "looks none 0", "least Z none x", "unpack Z 0 0", "copy Z none", "web Z", "at none"):
            self.assert_refused(desk, row, NoRow)


class FaultsTest(DeskCase):
    def test_each_fault_of_each_word(self):
        desk = started()
        for word, kinds in ROWS.items():
            for place, kind in enumerate(kinds):
                for bad in BAD[kind]:
                    words = [GOOD[other] for other in kinds]
                    words[place] = bad
                    self.assert_refused(desk, " ".join([word] + words), FAULTS[kind])

    def test_what_is_of_the_kind_is_not_refused(self):
        for word, kinds in ROWS.items():
            self.assertIs(type(started().say(" ".join([word] + [GOOD[kind] for kind in kinds]))), str)

    def test_signs_that_no_hex_has(self):
        desk = started()
        for sign in [chr(number) for number in range(33, 127)]:
            if sign not in "0123456789abcdef":
                self.assert_refused(desk, "unpack z 0" + sign, NoText)
                self.assert_refused(desk, "unpack z " + sign + "3", NoText)

    def test_kept_numbers(self):
        desk = started()
        for bad in BAD["number"]:
            self.assert_refused(desk, "copy z a 0 " + bad, NoRow)
            self.assert_refused(desk, "copy z a 0 1 " + bad + " 2", NoRow)
            self.assert_refused(desk, "copy z a 9 9 " + bad, NoRow)

    def test_a_name_is_needed_by_which_a_web_stands(self):
        desk = started()
        for row in ("draw z none 0", "least z none", "put z none 0 0 1", "change z none b c", "change z a none c",
                    "change z a b none", "drop none", "copy z none 0", "show none", "pack none", "at none -",
                    "same none a", "same a none", "looks none 0 0", "least z z", "draw none none 0"):
            self.assert_refused(desk, row, NoName)
        self.assert_refused(Desk(), "show a", NoName)

    def test_several_faults_the_first_from_the_left_is_told(self):
        maker = Maker(8)
        desk = started()
        for word, kinds in ROWS.items():
            for faulty in itertools.product((False, True), repeat=len(kinds)):
                if any(faulty):
                    words = [maker.chosen(BAD[kind]) if bad else GOOD[kind] for kind, bad in zip(kinds, faulty)]
                    self.assert_refused(desk, " ".join([word] + words), FAULTS[kinds[faulty.index(True)]])

    def test_two_faults_by_hand(self):
        desk = started()
        for row, refusal in (("draw Z none 0", NoName), ("draw z none 01", NoName), ("draw z a 01", NoRow),
                             ("put z a 01 0 -0", NoRow), ("put z none 01 0 -0", NoName), ("put z a 0 01 -0", NoRow),
                             ("put z a 9 9 -0", NoText), ("put z a 9 01 @9", NoRow), ("unpack Z 0", NoName),
                             ("unpack z 0", NoText), ("web Z [", NoName), ("at none 01", NoName), ("at a 9.01", NoRow),
                             ("looks a 9 01", NoRow), ("looks a 01 9", NoRow), ("looks none 9 01", NoName),
                             ("copy z a 9 01", NoRow), ("change z b a none", NoName), ("change Z b a a", NoName)):
            self.assert_refused(desk, row, refusal)


class StagesTest(DeskCase):
    def test_a_number_of_a_part_that_is_none(self):
        desk = started()
        for number in ("3", "4", "60", LONG):
            for row in ("draw z a ", "copy z a ", "copy z a 0 ", "copy z a 0 1 2 ", "looks a 0 ", "looks a " + number + " "):
                self.assert_refused(desk, row + number, NoPlace)
            self.assert_refused(desk, "looks a " + number + " 0", NoPlace)
            self.assert_refused(desk, "copy z a 0 " + number + " 1", NoPlace)
            self.assert_refused(desk, "copy z a " + number + " 0", NoPlace)
            self.assert_refused(desk, "put z a " + number + " 0 nil", NoPlace)
            self.assert_refused(desk, "put z a 2 " + number + " nil", NoPlace)
        self.assert_refused(desk, "put z a 1 0 nil", NoPlace)
        self.assert_refused(desk, "put z a 0 4 nil", NoPlace)
        self.assert_says(desk, ("draw z a 2", "ok"), ("copy z a 2 2", "2"), ("looks a 2 2", "yes"), ("put z a 2 1 nil", "ok"))

    def test_a_link_that_leads_to_no_part(self):
        desk = started()
        self.assert_refused(desk, "put z a 0 0 @3", NoValue)
        self.assert_refused(desk, "put z a 0 0 @" + LONG, NoValue)
        self.assert_refused(desk, "put z a 9 0 @3", NoPlace)
        self.assert_refused(desk, "put z a 0 9 @3", NoPlace)

    def test_too_many_parts(self):
        desk = started()
        self.assert_says(desk, ("web z " + shown(ring(30)), "ok"), ("copy y z 0", "30"), ("at y -", "@0"))
        self.assert_refused(desk, "copy a y 0", TooMany)
        self.assert_refused(desk, "copy y y 0 1", TooMany)
        self.assert_refused(desk, "copy a y 0 60", NoPlace)
        self.assert_says(desk, ("copy x y 5 5", "5"), ("web z " + shown(ring(31)), "ok"))
        self.assert_refused(desk, "copy a z 0", TooMany)

    def test_a_way_that_leads_nowhere(self):
        desk = started()
        for way, at in (("4", 0), ("1.0", 1), ("0.0", 1), ("2.0", 1), ("3.2", 1), ("3.0.3.1.0", 4), (LONG, 0), ("3." + LONG, 1)):
            self.assert_refused(desk, "at a " + way, NoWay, at)

    def test_bytes_that_are_no_pack(self):
        desk = started()
        for text, at in (("", 0), ("00", 0), ("80", 0), ("17", 1), ("0303", 1), ("1780", 1), ("13", 1), ("1341", 1),
                         ("27136106ff", 4), ("ff", 0), ("ff0g", None), ("2713610", None)):
            if at is None:
                self.assert_refused(desk, "unpack z " + text, NoText)
            else:
                self.assert_refused(desk, "unpack z " + text, NoPack, at)

    def test_a_slip_laid_upon_another_web(self):
        desk = started()
        self.assert_refused(desk, "change z a b b", NoBase)
        self.assert_refused(desk, "change z a b d", NoBase)
        self.assert_refused(desk, "change z b a a", NoBase)
        self.assert_refused(desk, "change a d a a", NoBase)

    def test_texts_of_webs_that_are_none(self):
        desk = started()
        for text in (shown(chain(61)), "[" + ", ".join(["1"] * 13) + "]", "[@1]", "'" + "a" * 21 + "'",
                     "{abcdefghi=1}", "; ".join(["c0{new=1}"] + ["c" + str(k) + "{}" for k in range(1, 60)])):
            self.assert_refused(desk, "web z " + text, NoText)


class KeptTest(DeskCase):
    def test_what_is_refused_changes_nothing_that_stands(self):
        desk = started()
        for row, refusal in (("web a [", NoText), ("draw a a 9", NoPlace), ("put a a 0 9 1", NoPlace), ("unpack a 00", NoPack),
                             ("put a b 0 0 @9", NoValue), ("change a b a a", NoBase), ("copy a a 9", NoPlace),
                             ("copy a a 0 9", NoPlace), ("least a none", NoName), ("drop none", NoName),
                             ("drop a b", NoRow), ("web a", NoRow), ("unpack a 0", NoText), ("at a 9", NoWay)):
            self.assert_refused(desk, row, refusal)
        self.assertEqual(standing(desk), standing(started()))

    def test_two_desks_beside_each_other(self):
        one = Desk()
        other = Desk()
        self.assert_says(one, ("web a " + A, "ok"), ("web b " + B, "ok"))
        self.assert_refused(other, "show a", NoName)
        self.assert_says(other, ("web a " + D, "ok"), ("show a", D))
        self.assert_says(one, ("show a", A), ("drop b", "ok"))
        self.assert_says(other, ("web b 'b'", "ok"), ("drop a", "ok"))
        self.assert_says(one, ("show a", A))
        self.assert_refused(one, "show b", NoName)
        self.assert_says(other, ("show b", "'b'"))
        self.assert_refused(Desk(), "show a", NoName)

    def test_asked_again_the_same_is_told(self):
        desk = started()
        for row in ("show a", "pack c", "at a 3.1", "same a b", "looks d 1 2", "copy z a 0", "least z d", "draw z c 1"):
            self.assertEqual(desk.say(row), desk.say(row))
            self.assertEqual(desk.say(row), started().say(row))


NUMBER = "(?:0|[1-9][0-9]{0,59})"
FORMS = {"new": "[a-z0-9]{1,8}", "name": "[a-z0-9]{1,8}", "number": NUMBER, "way": f"-|{NUMBER}([.]{NUMBER})*",
         "value": f"nil|@?{NUMBER}|-[1-9][0-9]{{0,59}}", "hex": "([0-9a-f][0-9a-f])*", "text": ".*"}


def way_text(way):
    return ".".join([str(place) for place in way]) or "-"


class Clerk:
    """A desk by the words: each row looked through from the left with plain patterns, then done by the stages."""

    def __init__(self):
        self.webs = {}

    def say(self, row):
        words = row.split(" ")
        kinds = ROWS.get(words[0])
        if kinds is None:
            raise NoRow("first word")
        if words[0] == "web" and len(words) > 3:
            words = words[:2] + [" ".join(words[2:])]
        if words[0] == "copy":
            kinds = kinds + ("number",) * (len(words) - 4)
        if len(words) != 1 + len(kinds):
            raise NoRow("number of words")
        for word, kind in zip(words[1:], kinds):
            if not re.fullmatch(FORMS[kind], word) or (kind == "name" and word not in self.webs):
                raise FAULTS[kind](word)
            if kind == "text":
                read(word)
        return self.done(words[0], words[1:])

    def part(self, name, word):
        if int(word) >= len(self.webs[name]):
            raise NoPlace(word)
        return int(word)

    def done(self, first, words):
        if first == "web":
            self.webs[words[0]] = read(words[1])
        elif first == "draw":
            self.webs[words[0]] = drawn(self.webs[words[1]], self.part(words[1], words[2]))
        elif first == "least":
            self.webs[words[0]] = least(self.webs[words[1]])
        elif first == "put":
            value = None if words[4] == "nil" else ("at", int(words[4][1:])) if words[4][0] == "@" else int(words[4])
            self.webs[words[0]] = put(self.webs[words[1]], int(words[2]), int(words[3]), value)
        elif first == "unpack":
            self.webs[words[0]] = unpacked(list(bytes.fromhex(words[1])))
        elif first == "change":
            self.webs[words[0]] = laid(self.webs[words[3]], slip(self.webs[words[1]], self.webs[words[2]]))
        elif first == "drop":
            del self.webs[words[0]]
        else:
            return self.told(first, words)
        return "ok"

    def told(self, first, words):
        if first == "copy":
            parts = [self.part(words[1], word) for word in words[2:]]
            self.webs[words[0]], number = copied(self.webs[words[1]], parts[0], parts[1:])
            return str(number)
        web = self.webs[words[0]]
        if first == "show":
            return shown(web)
        if first == "pack":
            return shown_hex(pack(web))
        if first == "at":
            value = value_at(web, [] if words[1] == "-" else [int(place) for place in words[1].split(".")])
            return "nil" if value is None else str(value) if isinstance(value, int) else "@" + str(value[1])
        if first == "same":
            told = parted(web, self.webs[words[1]])
            return "yes" if told is None else " ".join([told[0]] + [way_text(way) for way in told[1:]])
        way = parting_way(web, self.part(words[0], words[1]), self.part(words[0], words[2]))
        return "yes" if way is None else way_text(way)


def outcome(desk, row):
    try:
        return desk.say(row)
    except WebError as refusal:
        return (type(refusal), getattr(refusal, "at", None))


class RowMaker:
    """Rows that look like chance, most of them such as there are."""

    def __init__(self, seed):
        self.maker = Maker(seed)

    def word(self, kind):
        maker = self.maker
        if maker.below(30) == 0:
            return maker.chosen(BAD[kind])
        if kind in ("new", "name"):
            return maker.chosen("aaabbbccd")
        if kind == "number":
            return str(maker.below(5) if maker.below(9) else maker.below(70))
        if kind == "way":
            return way_text([maker.below(4) for _ in range(maker.below(4))])
        if kind == "value":
            return maker.chosen(("nil", "0", "-7", "5", "@0", "@1", "@2", "@3", "@7"))
        web = maker.chosen((maker.web(), maker.plain_web(5), maker.plain_web(5), chain(40)))
        if kind == "text":
            return shown(web)
        some = pack(web)
        if maker.below(4) == 0:
            some[maker.below(len(some))] = maker.below(256)
        return shown_hex(some)

    def row(self):
        maker = self.maker
        first = maker.chosen(tuple(ROWS) + ("web", "web", "unpack", "put", "copy", "change"))
        words = [first] + [self.word(kind) for kind in ROWS[first]]
        if first == "copy":
            words += [self.word("number") for _ in range(maker.below(4))]
        sort = maker.below(60)
        if sort == 0:
            words.insert(maker.below(len(words) + 1), maker.chosen(("", "a", "0")))
        if sort == 1:
            words.pop(maker.below(len(words)))
        return " ".join(words)


class ClerkTest(unittest.TestCase):
    def test_against_the_words(self):
        seen = {}
        for seed in range(40):
            desk = Desk()
            clerk = Clerk()
            rows = RowMaker(seed)
            for _ in range(150):
                row = rows.row()
                told = outcome(desk, row)
                self.assertEqual((row, told), (row, outcome(clerk, row)))
                kind = row.split(" ")[0] if isinstance(told, str) else told[0]
                seen[kind] = seen.get(kind, 0) + 1
        for kind in list(ROWS) + [NoRow, NoName, NoText, NoPlace, NoValue, NoWay, NoPack, NoBase, TooMany]:
            self.assertGreater(seen.get(kind, 0), 0, kind)


class RoadsTest(DeskCase):
    def test_webs_come_and_go_as_texts_and_as_hex(self):
        for web in made_webs(80):
            desk = Desk()
            self.assert_says(desk, ("web a " + shown(web), "ok"), ("show a", shown(web)),
                             ("unpack b " + shown_hex(pack(web)), "ok"), ("show b", shown(drawn(web))), ("same a b", "yes"),
                             ("pack a", shown_hex(pack(web))), ("pack b", shown_hex(pack(web))))

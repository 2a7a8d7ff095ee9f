import re
import unittest

from graphpack.errors import NoText
from graphpack.texts import read, shown
from graphpack.webs import is_web
from tests.samples import EVERY_KIND, chain, classes_web, made_webs, names_web, ring

PAIRED = (
    ("'ab c'", (("text", "ab c"),)),
    ("''", (("text", ""),)),
    ("' '", (("text", " "),)),
    ("'" + "a" * 20 + "'", (("text", "a" * 20),)),
    ("[]", (("row", ()),)),
    ("[nil]", (("row", (None,)),)),
    ("[0, -1, 1]", (("row", (0, -1, 1)),)),
    ("[1, @2, nil]; 'a'; 'b'", (("row", (1, ("at", 2), None)), ("text", "a"), ("text", "b"))),
    ("[" + ", ".join(["7"] * 12) + "]", (("row", (7,) * 12),)),
    ("{}", (("table", ()),)),
    ("{a=1, b=@0}", (("table", (("a", 1), ("b", ("at", 0)))),)),
    ("{nil=nil, 0=-12}", (("table", (("nil", None), ("0", -12))),)),
    ("dog{a=-7}", (("record", "dog", (("a", -7),)),)),
    ("dog{}", (("record", "dog", ()),)),
    ("nil{}", (("record", "nil", ()),)),
    ("12345678{abcdefgh=@0}", (("record", "12345678", (("abcdefgh", ("at", 0)),)),)),
    ("[@0]; [@1, @0]", (("row", (("at", 0),)), ("row", (("at", 1), ("at", 0))))),
)

REFUSED = (
    "", " ", ";", "; ", "nil", "1", "@0", "a", "dog", "at",
    # A blank too many or too few, and other signs about the parts.
    " []", "[] ", "[ ]", "[]\n", "\n[]", "[\t]", "[];[]", "[] ; []", "[];  []", "[]; ", "; []", "[]; ; []", "[], []",
    "[]\n[]", "[]; []; ", "[1,2]", "[1,  2]", "[1 , 2]", "[ 1]", "[1 ]", "[1, ]", "[, 1]", "[, ]", "[,]", "[1, , 2]",
    "{a=1,b=2}", "{a=1,  b=2}", "{a =1}", "{a= 1}", "{ a=1}", "{a=1 }", "{a=1, }", "{, }", "dog {}", " dog{}",
    "dog{} ", "dog{ }", "[1; 2]", "{a=1; b=2}", "{ }", "[nil ]", "[@ 0]", "[- 1]",
    # Texts.
    "'", "'a", "a'", "'''", "'a'b'", "'A'", "'a;b'", "'a; b'", "'" + "a" * 21 + "'", "\"a\"", "'a' 'b'", "'a\n'",
    "'a''b'", "'\u00e4'", "`a`", "''''",
    # Rows.
    "[", "]", "][", "[1", "1]", "[[1]]", "[]]", "[[]", "[1][2]", "(1)", "[a]", "['a']", "[None]", "[Nil]", "[NIL]",
    "[nill]", "[1.0]", "[1e3]", "[+1]", "[1_0]", "[0x1]", "[--1]", "[-]", "[-nil]", "[True]", "[{}]", "row[]", "[a=1]",
    "[" + ", ".join(["7"] * 13) + "]", "[\u0661]", "[\uff11]", "[\u00b2]", "[1\u00a0]",
    # Numbers.
    "[00]", "[01]", "[-0]", "[-01]", "[-00]", "[007]", "[1-]", "[1 2]", "[" + "1" * 61 + "]", "[-" + "1" * 61 + "]",
    "[" + "0" * 60 + "]", "[0" + "1" * 60 + "]", "{a=-0}", "{a=01}", "dog{a=" + "9" * 61 + "}", "[" + "9" * 5000 + "]",
    # Links.
    "[@]", "[@1]", "[@-0]", "[@-1]", "[@00]", "[@01]; []", "[@@0]", "[0@]", "[@nil]", "[@a]", "[at 0]", "[@+0]",
    "[@" + "1" * 60 + "]", "[@" + "1" * 61 + "]", "[]; [@2]", "{a=@1}", "dog{a=@1}", "[-@0]", "[@\u0660]",
    # Tables and records.
    "{", "}", "}{", "{a", "a}", "{a}", "{a=}", "{=1}", "{=}", "{a==1}", "{a=1=2}", "{a:1}", "{a=1}}", "{{a=1}", "{{}}",
    "{a={}}", "{a=[]}", "{a='b'}", "{A=1}", "{abcdefghi=1}", "{a b=1}", "{a=1, a=2}", "{a=1, b=2, a=1}", "{1}", "{nil}",
    "{a=b}", "{'a'=1}", "Dog{}", "abcdefghi{}", "do g{}", "dog{a=1, a=1}", "dog{a=1}cat", "dog[]", "dog''", "dog{}{}",
    "'dog'{}", "{}dog", "dog{", "dog}", "dog{a}", "[]{}", "{}[]", "do-g{}", "d\u00f6g{}",
    "{" + ", ".join([name + "=1" for name in "abcdefghijklm"]) + "}",
    "dog{" + ", ".join([name + "=1" for name in "abcdefghijklm"]) + "}",
)

VALUE = r"(?:nil|0|-?[1-9][0-9]{0,59}|@(?:0|[1-9][0-9]{0,59}))"
NAME = r"[a-z0-9]{1,8}"
PAIRS = r"\{(?:%s=%s(?:, %s=%s){0,11})?\}" % (NAME, VALUE, NAME, VALUE)
PART = r"(?:'[a-z0-9 ]{0,20}'|\[(?:%s(?:, %s){0,11})?\]|(?:%s)?%s)" % (VALUE, VALUE, NAME, PAIRS)
FORM = re.compile(r"%s(?:; %s){0,59}" % (PART, PART))


def shows_a_web(text):
    """Told by the form alone, apart from how the program reads."""
    if not FORM.fullmatch(text):
        return False
    parts = text.split("; ")
    for part in parts:
        names = re.findall("(%s)=" % NAME, part)
        if len(set(names)) != len(names):
            return False
    names = re.findall(r"(%s)[={]" % NAME, text)
    links = [int(k) for k in re.findall("@([0-9]+)", text)]
    return len(set(names)) <= 60 and all(k < len(parts) for k in links)


class ReadTest(unittest.TestCase):
    def assert_refused(self, thing):
        with self.subTest(repr(thing)[:100]):
            with self.assertRaises(NoText):
                read(thing)

    def test_shown_and_read_back(self):
        for text, web in PAIRED:
            with self.subTest(text):
                self.assertEqual(shown(web), text)
                self.assertEqual(read(text), web)
                self.assertIs(is_web(read(text)), True)

    def test_the_whole_of_several_kinds(self):
        text = "dog{a=-7, b=@1, c9=nil}; [1, @2, nil, @3]; 'ab c'; {a=1, b=@0}; []; {}; 7{}; ''"
        self.assertEqual(shown(EVERY_KIND), text)
        self.assertEqual(read(text), EVERY_KIND)

    def test_numbers_of_one_and_of_sixty_figures(self):
        numbers = list(range(-9, 10)) + [10, -10, 10 ** 59, 10 ** 60 - 1, -(10 ** 59), 1 - 10 ** 60, int("1234567890" * 6)]
        for number in numbers:
            with self.subTest(number):
                for web, text in (((("row", (number,)),), "[%d]" % number), ((("table", (("a", number),)),), "{a=%d}" % number),
                                  ((("record", "b", (("a", number),)),), "b{a=%d}" % number)):
                    self.assertEqual(shown(web), text)
                    self.assertEqual(read(text), web)

    def test_kinds(self):
        for value in read("[0, 5, -5, 100]")[0][1]:
            self.assertIs(type(value), int)
        self.assertIs(type(shown(EVERY_KIND)), str)

    def test_made_webs_are_read_back(self):
        for web in made_webs(400):
            with self.subTest(web):
                self.assertEqual(read(shown(web)), web)
                self.assertTrue(shows_a_web(shown(web)))

    def test_as_they_are_not_as_they_are_drawn(self):
        web = (("row", (("at", 2),)), ("text", "unmet"), ("row", ()))
        self.assertEqual(shown(web), "[@2]; 'unmet'; []")
        self.assertEqual(read("[@2]; 'unmet'; []"), web)

    def test_the_bounds_of_webs(self):
        for web in (chain(60), ring(60), names_web(60), classes_web(60), (("row", (("at", 59),) * 12),) * 60):
            self.assertEqual(read(shown(web)), web)
        for web in (chain(61), ring(61), names_web(61), (("row", ()),) * 61,
                    classes_web(60) + (("table", (("x", 1),)),)):
            self.assert_refused(shown(web))

    def test_a_link_to_the_last_part_and_to_the_one_behind(self):
        for count in (1, 2, 60):
            filling = "; []" * (count - 1)
            self.assertEqual(read("[@%d]%s" % (count - 1, filling))[0], ("row", (("at", count - 1),)))
            self.assert_refused("[@%d]%s" % (count, filling))

    def test_shown_is_no_refusal_of_what_lies_beyond_the_bounds(self):
        self.assertEqual(shown((("row", (1,) * 13),)), "[" + ", ".join(["1"] * 13) + "]")
        self.assertEqual(shown((("text", "a" * 21),) * 61), "; ".join(["'" + "a" * 21 + "'"] * 61))

    def test_texts_that_are_nearly_of_the_form(self):
        for text in REFUSED:
            self.assert_refused(text)

    def test_what_is_no_text(self):
        for thing in (None, 0, 1, True, False, 1.0, b"[]", bytearray(b"[]"), ["[]"], ("[]",), {"[]": 1}, [], (), {},
                      set(), object(), str, len, EVERY_KIND, ("text", "a"), ["[", "]"], Ellipsis):
            self.assert_refused(thing)

    def test_one_sign_more_less_or_other(self):
        signs = "a0-1 ,;@={}[]'nA\n"
        for text in ("[1, @2, nil]; 'ab c'; {a=10, b=@0}", "dog{a=-7, b=nil}; []; ''", "x{}; {}; [@0, @10]"):
            for place in range(len(text) + 1):
                near = [text[:place] + text[place + 1:]]
                near += [text[:place] + sign + text[place:] for sign in signs]
                near += [text[:place] + sign + text[place + 1:] for sign in signs]
                for other in near:
                    self.check_as_the_form_says(other)

    def check_as_the_form_says(self, text):
        if not shows_a_web(text):
            self.assert_refused(text)
            return
        web = read(text)
        self.assertIs(is_web(web), True, text)
        self.assertEqual(shown(web), text)

    def test_asked_again_the_same_is_told(self):
        for text, web in PAIRED:
            self.assertEqual(read(text), read(text))
            self.assertEqual(shown(web), shown(web))
        kept = shown(EVERY_KIND)
        read("[@0]")
        shown(ring(3))
        self.assertEqual(shown(EVERY_KIND), kept)

    def test_what_is_handed_in_stays(self):
        thing = ["[]", ["@0"]]
        self.assert_refused(thing)
        self.assertEqual(thing, ["[]", ["@0"]])

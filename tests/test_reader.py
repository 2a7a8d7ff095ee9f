import unittest

from graphpack.errors import NoPack, WebError
from graphpack.packs import pack, unpacked
from graphpack.reader import Reader
from graphpack.webs import drawn, is_web
from tests.pack_words import LETTERS, Writer, outcome_by_the_words
from tests.samples import EVERY_KIND, Hostile, Maker, chain, classes_web, made_webs, names_web, ring

NO_BYTES = (-1, 256, 10 ** 60, -10 ** 60, True, False, None, "", "a", 0.0, 3.0, b"a", [], [3], (), {}, object(), Hostile())

# A record that holds a text and a table, which holds the record.
HELD = (("record", "dog", (("a", ("at", 1)), ("b", ("at", 2)))), ("text", "xy"), ("table", (("a", ("at", 0)), ("b", 900))))
HELD_PACK = [47, 7, 100, 111, 103, 3, 97, 35, 120, 121, 3, 98, 43, 2, 10, 0, 184, 33]


def asked_webs():
    return made_webs(80) + [EVERY_KIND, HELD, chain(60), ring(60), classes_web(12), names_web(60),
                            (("row", (10 ** 60 - 1, ("at", 0), -(10 ** 60) + 1)),)]


def given(some):
    reader = Reader()
    reader.give(some)
    return reader


def refused_at(reader, some):
    try:
        reader.give(some)
    except NoPack as refusal:
        return refusal.at
    return None


def told(reader):
    """All that a reader tells; the web's place is taken by the number at which it is refused."""
    try:
        web = reader.web()
    except NoPack as refusal:
        web = refusal.at
    return (reader.whole(), reader.open_parts(), reader.taken(), web)


def pieces_of(maker, some, most):
    """The bytes in pieces of up to so many, some of none."""
    pieces = []
    start = 0
    while start < len(some):
        count = maker.below(most + 1)
        pieces.append(some[start:start + count])
        start += count
    return pieces


class ReaderCase(unittest.TestCase):
    def assert_refused(self, reader, some, at):
        with self.assertRaises(WebError) as caught:
            reader.give(some)
        self.assertIs(type(caught.exception), NoPack)
        self.assertIs(type(caught.exception.at), int)
        self.assertEqual(caught.exception.at, at)


class TakenTest(ReaderCase):
    def test_a_new_reader(self):
        self.assertEqual(told(Reader()), (False, 0, 0, 0))

    def test_behind_each_byte_by_hand(self):
        reader = Reader()
        # Behind each byte how many parts are open: the text ends with its sign, the table and the record with 900.
        opened = [1, 1, 1, 1, 1, 1, 1, 2, 2, 1, 1, 1, 2, 2, 2, 2, 2, 0]
        self.assertEqual(pack(HELD), HELD_PACK)
        for number, byte in enumerate(HELD_PACK):
            self.assertIsNone(reader.give([byte]))
            whole = number == len(HELD_PACK) - 1
            self.assertEqual(told(reader), (whole, opened[number], number + 1, HELD if whole else number + 1))

    def test_a_part_is_open_from_the_last_byte_of_its_head_number(self):
        reader = Reader()
        reader.give([129])
        self.assertEqual(told(reader), (False, 0, 1, 1))
        reader.give([3])
        self.assertEqual(told(reader), (False, 1, 2, 2))
        reader.give([97] * 7)
        self.assertEqual(told(reader), (False, 1, 9, 9))
        reader.give([98])
        self.assertEqual(told(reader), (True, 0, 10, (("text", "aaaaaaab"),)))
        reader = given([23, 129])
        self.assertEqual(told(reader), (False, 1, 2, 2))
        reader.give([3])
        self.assertEqual(told(reader), (False, 2, 3, 3))

    def test_parts_that_hold_nothing_end_as_they_begin(self):
        for byte, part in ((3, ("text", "")), (7, ("row", ())), (11, ("table", ()))):
            self.assertEqual(told(given([byte])), (True, 0, 1, (part,)))
            self.assertEqual(told(given([39, byte])), (False, 1, 2, 2))
            self.assertEqual(told(given([23, byte])), (True, 0, 2, (("row", (("at", 1),)), part)))
        # A record has its class still.
        self.assertEqual(told(given([15])), (False, 1, 1, 1))
        self.assertEqual(told(given([15, 5, 97])), (False, 1, 3, 3))
        self.assertEqual(told(given([15, 5, 97, 98])), (True, 0, 4, (("record", "ab", ()),)))

    def test_all_that_are_open_may_end_at_once(self):
        reader = given([23] * 60)
        self.assertEqual(told(reader), (False, 60, 60, 60))
        reader.give([129])
        self.assertEqual(told(reader), (False, 60, 61, 61))
        reader.give([110])
        self.assertEqual(told(reader), (True, 0, 62, ring(60)))

    def test_behind_each_byte_of_many(self):
        for web in asked_webs():
            writer = Writer(web)
            reader = Reader()
            for number, byte in enumerate(writer.out):
                reader.give([byte])
                whole = number == len(writer.out) - 1
                self.assertEqual(told(reader), (whole, writer.depths[number], number + 1,
                                                drawn(web) if whole else number + 1))

    def test_in_pieces_of_any_size(self):
        maker = Maker(31)
        for web in asked_webs():
            some = pack(web)
            for most in (1, 2, 5, 30):
                reader = Reader()
                came = []
                for piece in pieces_of(maker, some, most):
                    reader.give(piece)
                    came = came + piece
                    self.assertEqual(told(reader), told(given(came)))
                self.assertEqual(told(reader), (True, 0, len(some), drawn(web)))

    def test_at_once(self):
        for web in asked_webs():
            self.assertEqual(told(given(pack(web))), (True, 0, len(pack(web)), unpacked(pack(web))))

    def test_pieces_of_none(self):
        reader = Reader()
        reader.give([])
        self.assertEqual(told(reader), (False, 0, 0, 0))
        for byte in HELD_PACK:
            reader.give([])
            reader.give([byte])
            self.assertIsNone(reader.give([]))
        self.assertEqual(told(reader), (True, 0, len(HELD_PACK), HELD))
        reader.give([])
        self.assertEqual(told(reader), (True, 0, len(HELD_PACK), HELD))

    def test_kinds(self):
        reader = Reader()
        for byte in HELD_PACK:
            self.assertEqual([type(thing) for thing in (reader.whole(), reader.open_parts(), reader.taken())],
                             [bool, int, int])
            reader.give([byte])
        self.assertIs(reader.whole(), True)
        self.assertIs(is_web(reader.web()), True)


class RefusedTest(ReaderCase):
    def test_a_byte_that_fits_no_pack_at_each_place(self):
        maker = Maker(37)
        for web in made_webs(25) + [HELD]:
            some = pack(web)
            for place in range(len(some) + 1):
                for thing in (None, 256, True, maker.below(256), 128, 4, 1, 255):
                    at = outcome_by_the_words(some[:place] + [thing])
                    if isinstance(at, tuple) or at > place:
                        continue
                    for ahead in (0, place // 2, place):
                        reader = given(some[:ahead])
                        before = told(given(some[:place]))
                        # What is behind it would go on, were it not for the one.
                        self.assert_refused(reader, some[ahead:place] + [thing] + some[place:], place)
                        self.assertEqual(told(reader), before)
                        reader.give(some[place:])
                        self.assertEqual(told(reader), (True, 0, len(some), drawn(web)))

    def test_refused_again_and_again(self):
        reader = Reader()
        for number, byte in enumerate(HELD_PACK):
            for thing in NO_BYTES:
                self.assert_refused(reader, [thing], number)
                self.assert_refused(reader, [thing, byte], number)
            before = told(reader)
            self.assert_refused(reader, [byte, None], number + 1)
            self.assertEqual(reader.taken(), number + 1)
            self.assertNotEqual(told(reader), before)
        self.assertEqual(reader.web(), HELD)

    def test_each_byte_that_is_refused_leaves_all_as_it_was(self):
        for some in (HELD_PACK, pack(EVERY_KIND), [23, 23, 255, 255, 1], [130, 67] + [97] * 20,
                     [43, 5, 97, 98, 31, 0, 5, 97, 99, 0, 0, 0]):
            ahead = Reader()
            for place in range(len(some) + 1):
                before = told(ahead)
                for byte in range(256):
                    trial = given(some[:place])
                    at = refused_at(trial, [byte])
                    if at is not None:
                        self.assertEqual(at, place)
                        self.assertEqual(refused_at(ahead, [byte]), place)
                        self.assertEqual(told(ahead), before)
                ahead.give(some[place:place + 1])
            self.assertEqual(ahead.web(), unpacked(some))

    def test_other_bytes_in_their_place(self):
        reader = given([43, 3, 97, 0])
        # The name that stands in the table, as known and as new.
        self.assert_refused(reader, [0, 0], 4)
        self.assert_refused(reader, [3, 97], 5)
        self.assertEqual(reader.taken(), 5)
        self.assert_refused(reader, [97, 98], 5)
        reader.give([98])
        self.assert_refused(reader, [4], 6)
        self.assert_refused(reader, [6], 6)
        self.assert_refused(reader, [129, 4], 7)
        self.assertEqual(reader.taken(), 7)
        self.assert_refused(reader, [2], 7)
        reader.give([1])
        self.assertEqual(reader.web(), (("table", (("a", None), ("b", 16))),))

    def test_a_digit_that_was_taken_stays(self):
        reader = given([23, 129])
        self.assert_refused(reader, [128, 0], 3)
        self.assertEqual(reader.taken(), 3)
        reader.give([1])
        self.assertEqual(reader.web(), unpacked([23, 129, 128, 1]))

    def test_behind_a_whole_pack(self):
        reader = given(HELD_PACK)
        for byte in (0, 3, 7, 97, 128, 255, None, 256):
            self.assert_refused(reader, [byte], len(HELD_PACK))
            self.assert_refused(reader, [byte] + HELD_PACK, len(HELD_PACK))
            self.assertEqual(told(reader), (True, 0, len(HELD_PACK), HELD))
        self.assert_refused(Reader(), HELD_PACK + HELD_PACK, len(HELD_PACK))

    def test_the_web_where_the_bytes_are_no_whole_pack(self):
        for count in range(len(HELD_PACK)):
            reader = given(HELD_PACK[:count])
            with self.assertRaises(WebError) as caught:
                reader.web()
            self.assertIs(type(caught.exception), NoPack)
            self.assertEqual(caught.exception.at, count)
            # Asked for too early, it comes nevertheless.
            reader.give(HELD_PACK[count:])
            self.assertEqual(reader.web(), HELD)

    def test_told_as_unpacked_tells(self):
        maker = Maker(41)
        for web in made_webs(60):
            some = pack(web)
            for _ in range(20):
                place = maker.below(len(some))
                things = some[:place] + [maker.below(256)] + some[place + maker.below(2):]
                at = None
                reader = Reader()
                for piece in pieces_of(maker, things, 4):
                    at = refused_at(reader, piece)
                    if at is not None:
                        break
                expected = outcome_by_the_words(things)
                if at is None:
                    self.assertEqual(told(reader)[3], expected)
                else:
                    self.assertEqual((at, reader.taken()), (expected, expected))


def ended(reader):
    """The bytes with which a reader goes on to a whole pack where each time the least one that is taken is given."""
    more = []
    while not reader.whole():
        before = reader.taken()
        for byte in range(256):
            if refused_at(reader, [byte]) is None:
                more.append(byte)
                break
        if reader.taken() == before:
            return None
    return more


class GoesOnTest(ReaderCase):
    """What a reader has taken, some pack begins with: it can be gone on from to the end."""

    def check(self, some):
        reader = Reader()
        at = refused_at(reader, some)
        came = some if at is None else some[:at]
        more = ended(reader)
        self.assertIsNotNone(more, some)
        self.assertEqual(pack(reader.web()), came + more)
        self.assertIs(is_web(reader.web()), True)

    def test_behind_each_byte(self):
        for web in made_webs(40) + [HELD, ring(60), classes_web(8)]:
            some = pack(web)
            for count in range(len(some) + 1):
                self.check(some[:count])

    def test_behind_bytes_that_were_changed(self):
        maker = Maker(43)
        for web in made_webs(80):
            some = pack(web)
            for _ in range(10):
                place = maker.below(len(some))
                self.check(some[:place] + [maker.chosen((maker.below(256), 3, 129, 130, 31, 27, 15))])

    def test_where_names_and_parts_run_out(self):
        names = list(LETTERS) + ["a" + sign for sign in LETTERS]
        for count in (35, 36, 37, 59, 60):
            tables = [names[start:start + 12] for start in range(0, count, 12)]
            web = (("row", tuple([("at", k + 1) for k in range(len(tables))]) + (None,)),)
            web += tuple([("table", tuple([(name, None) for name in table])) for table in tables])
            some = pack(web)[:-1]
            for more in ([15], [27], [129, 75], [129, 79], [129, 75, 0, 0, 2, 0], [15, 3], [15, 5], [15, 5, 97], [27, 3]):
                self.check(some + more)
        for more in ([], [23], [27], [129, 75], [129]):
            self.check([23] * 59 + more)
            self.check([23] * 58 + more)

    def test_any_bytes(self):
        maker = Maker(47)
        for _ in range(400):
            reader = Reader()
            came = []
            for _ in range(60):
                byte = maker.chosen((0, 1, 2, 3, 5, 7, 15, 23, 27, 31, 39, 43, 47, 97, 98, 48, 129, maker.below(256)))
                if refused_at(reader, [byte]) is None:
                    came.append(byte)
            more = ended(reader)
            self.assertIsNotNone(more)
            self.assertEqual(pack(reader.web()), came + more)


class StaysTest(ReaderCase):
    def test_what_is_handed_in_stays(self):
        piece = list(HELD_PACK)
        Reader().give(piece)
        self.assertEqual(piece, HELD_PACK)
        piece = [23, 4, None]
        self.assertEqual(refused_at(Reader(), piece), 1)
        self.assertEqual(piece, [23, 4, None])

    def test_what_is_done_later_to_what_was_handed_in_changes_nothing(self):
        reader = Reader()
        first = HELD_PACK[:9]
        reader.give(first)
        first.append(0)
        first[0] = 3
        second = HELD_PACK[9:]
        reader.give(second)
        second.clear()
        self.assertEqual(told(reader), (True, 0, len(HELD_PACK), HELD))

    def test_asked_again_the_same_is_told(self):
        reader = given(HELD_PACK[:9])
        self.assertEqual(told(reader), told(reader))
        reader.give(HELD_PACK[9:])
        self.assertEqual(reader.web(), reader.web())
        self.assertEqual(told(reader), told(reader))

    def test_what_was_told_stays_as_it_was(self):
        reader = given(HELD_PACK)
        web = reader.web()
        refused_at(reader, [3, 3])
        given(pack(EVERY_KIND))
        self.assertEqual(web, HELD)
        self.assertEqual(reader.web(), HELD)

    def test_two_readers_beside_each_other(self):
        one = Reader()
        other = Reader()
        behind = pack(EVERY_KIND)
        for number in range(len(behind)):
            if number < len(HELD_PACK):
                one.give([HELD_PACK[number]])
            other.give([behind[number]])
            self.assertEqual(told(other), told(given(behind[:number + 1])))
            self.assertEqual(told(one), told(given(HELD_PACK[:number + 1])))
            refused_at(one, [None])
        self.assertEqual((one.web(), other.web()), (HELD, EVERY_KIND[:4]))
        self.assertEqual(told(Reader()), (False, 0, 0, 0))

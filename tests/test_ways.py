import unittest

from graphpack.errors import NoPack, NoWay, WebError
from graphpack.ways import value_at
from tests.samples import EVERY_KIND, chain, made_webs, plain_webs, ring, ways_from

FAR = 10 ** 59


class WaysTest(unittest.TestCase):
    def assert_refused(self, at, web, way, k=0):
        with self.subTest(web=web[:3], way=way[:50], k=k):
            with self.assertRaises(NoWay) as caught:
                value_at(web, way, k)
            self.assertEqual(caught.exception.at, at)
            self.assertIs(type(caught.exception.at), int)

    def test_no_places(self):
        for web in (EVERY_KIND, ring(3), (("text", "a"),)):
            self.assertEqual(value_at(web, []), ("at", 0))
            for k in range(len(web)):
                self.assertEqual(value_at(web, [], k), ("at", k))
                self.assertEqual(value_at(web, [], k=k), ("at", k))

    def test_one_place(self):
        self.assertEqual(value_at(EVERY_KIND, [0]), -7)
        self.assertEqual(value_at(EVERY_KIND, [1]), ("at", 1))
        self.assertIsNone(value_at(EVERY_KIND, [2]))
        self.assertEqual(value_at(EVERY_KIND, [3], 1), ("at", 3))
        self.assertEqual(value_at(EVERY_KIND, [0], 3), 1)
        self.assertEqual(value_at(EVERY_KIND, [1], 3), ("at", 0))
        self.assertEqual(value_at((("row", tuple(range(12))),), [11]), 11)

    def test_several_places(self):
        self.assertEqual(value_at(EVERY_KIND, [1, 1]), ("at", 2))
        self.assertEqual(value_at(EVERY_KIND, [1, 3, 0]), 1)
        self.assertEqual(value_at(EVERY_KIND, [1, 3, 1]), ("at", 0))
        self.assertIsNone(value_at(EVERY_KIND, [1, 3, 1, 2]))
        self.assertEqual(value_at(EVERY_KIND, [3, 1, 0], 1), -7)

    def test_forty_places(self):
        self.assertEqual(value_at(chain(60), [1] * 40), ("at", 40))
        self.assertEqual(value_at(chain(60), [1] * 39 + [0]), 39)
        self.assertEqual(value_at(chain(60), [1] * 40, 19), ("at", 59))
        self.assertEqual(value_at(ring(7), [0] * 40), ("at", 5))
        self.assertEqual(value_at(ring(7), [0] * 40, 3), ("at", 1))
        self.assertEqual(value_at(ring(7), [0] * 4000), ("at", 3))
        self.assertEqual(value_at(EVERY_KIND, [1, 3, 1] * 13 + [0]), -7)

    def test_a_place_below_nought(self):
        for place in (-1, -2, -3, -4, -FAR):
            self.assert_refused(0, EVERY_KIND, [place])
            self.assert_refused(0, EVERY_KIND, [place, 0])
            self.assert_refused(1, EVERY_KIND, [1, place])
            self.assert_refused(2, EVERY_KIND, [1, 3, place, 0])
            self.assert_refused(0, ring(1), [place])
            self.assert_refused(39, ring(7), [0] * 39 + [place])

    def test_a_place_just_too_far_and_far_off(self):
        for beyond in (0, 1, 10, FAR):
            for k, count in enumerate((3, 4, 0, 2, 0, 0, 0, 0)):
                self.assert_refused(0, EVERY_KIND, [count + beyond], k)
            self.assert_refused(1, EVERY_KIND, [1, 4 + beyond])
            self.assert_refused(2, EVERY_KIND, [1, 1, beyond])
            self.assert_refused(2, EVERY_KIND, [1, 3, 2 + beyond, 0, 0])
            self.assert_refused(39, ring(7), [0] * 39 + [1 + beyond])
        self.assertEqual(value_at(EVERY_KIND, [1, 3]), ("at", 3))

    def test_a_place_behind_what_is_no_link(self):
        for place in (0, 1, 5, -1, FAR):
            self.assert_refused(1, EVERY_KIND, [0, place])
            self.assert_refused(1, EVERY_KIND, [2, place])
            self.assert_refused(2, EVERY_KIND, [1, 0, place])
            self.assert_refused(2, EVERY_KIND, [1, 2, place, -1])
            self.assert_refused(40, chain(60), [1] * 39 + [0, place])
        # A number is no link to the part of that number.
        self.assert_refused(1, (("row", (1, 0)), ("row", (7,))), [0, 0])

    def test_the_first_of_several(self):
        self.assert_refused(0, EVERY_KIND, [9, -1, 0])
        self.assert_refused(1, EVERY_KIND, [0, -1, 9])
        self.assert_refused(1, EVERY_KIND, [1, -5, -5, -5])
        self.assert_refused(0, (("text", "a"),), [0] * 40)

    def test_the_refusal(self):
        with self.assertRaises(WebError) as caught:
            value_at(EVERY_KIND, [5])
        self.assertNotIsInstance(caught.exception, NoPack)

    def test_every_way_that_leads_and_those_beside_it(self):
        for web in made_webs(60):
            for k in range(len(web)):
                found = ways_from(web, k, 3)
                for way, value in found:
                    self.assertEqual(value_at(web, way, k), value)
                known = [way for way, value in found]
                for way in known:
                    for place in (-1, 5):
                        if len(way) < 3:
                            self.assert_refused(len(way), web, way + [place], k)
                            self.assert_refused(len(way), web, way + [place, 0, -1], k)

    def test_the_way_stays(self):
        for way in ([], [1], [1, 3, 1], [0, 0, 0], [-1], [FAR, 2]):
            kept = list(way)
            try:
                value_at(EVERY_KIND, way)
            except NoWay:
                pass
            self.assertEqual(way, kept)

    def test_asked_again_the_same_is_told(self):
        for web in plain_webs(50, 4):
            for way, value in ways_from(web, 0, 3):
                told = value_at(web, way)
                way.append(0)
                self.assertEqual(told, value)
                self.assertEqual(value_at(web, way[:-1]), value)

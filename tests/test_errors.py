import unittest

from graphpack import errors

PLAIN = ("NoText", "NoPlace", "NoValue", "TooMany", "NoMake", "NoBase", "NoRow", "NoName")
PLACED = ("NoWay", "NoPack")


class ErrorsTest(unittest.TestCase):
    def test_the_root_of_all_stands_under_value_error(self):
        self.assertEqual(errors.WebError.__bases__, (ValueError,))

    def test_each_stands_under_web_error(self):
        for name in PLAIN + PLACED:
            with self.subTest(name):
                self.assertTrue(issubclass(getattr(errors, name), errors.WebError))
                self.assertIsNot(getattr(errors, name), errors.WebError)

    def test_none_stands_under_another_one(self):
        for name in PLAIN + PLACED:
            for other in PLAIN + PLACED:
                if name != other:
                    with self.subTest(name=name, other=other):
                        self.assertFalse(issubclass(getattr(errors, name), getattr(errors, other)))

    def test_the_plain_ones_are_raised_with_words_or_without(self):
        for name in PLAIN + ("WebError",):
            with self.subTest(name):
                made = getattr(errors, name)
                with self.assertRaises(errors.WebError):
                    raise made("words")
                with self.assertRaises(ValueError):
                    raise made()

    def test_at_is_set_when_made(self):
        for name in PLACED:
            for at in (0, 1, 77, 4000):
                with self.subTest(name=name, at=at):
                    self.assertEqual(getattr(errors, name)(at).at, at)

    def test_at_belongs_to_each_object_alone(self):
        for name in PLACED:
            with self.subTest(name):
                first = getattr(errors, name)(3)
                second = getattr(errors, name)(5)
                self.assertEqual((first.at, second.at), (3, 5))
                self.assertFalse(hasattr(getattr(errors, name), "at"))
                with self.assertRaises(errors.WebError) as caught:
                    raise first
                self.assertEqual(caught.exception.at, 3)

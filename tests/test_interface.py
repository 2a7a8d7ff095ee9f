"""Names, arguments and defaults, as the document's interface lists them."""

import importlib
import inspect
import unittest

FUNCTIONS = {
    "webs": ("is_name(thing)", "is_word(thing)", "is_value(thing)", "is_part(thing)", "is_web(thing)", "head(part)",
             "values(part)", "with_values(part, some)", "met(web, k=0)", "drawn(web, k=0)"),
    "texts": ("shown(web)", "read(text)"),
    "ways": ("value_at(web, way, k=0)",),
    "looks": ("look_table(web, p, q)", "is_closed(web, pairs)", "parting_way(web, p, q)", "least(web)"),
    "same": ("same(one, other)", "pairing(one, other)", "is_pairing(one, other, pairs)", "parted(one, other)"),
    "copies": ("put(web, k, place, value)", "copied(web, k, kept=None)", "shallow(web, k)"),
    "numbers": ("number_bytes(number)", "folded(number)", "unfolded(number)"),
    "packs": ("pack(web)", "unpacked(some)"),
    "bundles": ("bundle(web)", "count_of(look)", "part_of(look, k)", "wanted(look, k)"),
    "makes": ("brought(web, classes, makes)", "plain(web, classes)"),
    "slips": ("stay(old, new)", "mark(web)", "slip(old, new)", "laid(web, slip)"),
}

METHODS = {
    ("reader", "Reader"): ("give(self, some)", "whole(self)", "open_parts(self)", "taken(self)", "web(self)"),
    ("desk", "Desk"): ("say(self, row)",),
}

ERRORS = ("NoText", "NoPlace", "NoValue", "TooMany", "NoMake", "NoBase", "NoRow", "NoName", "NoWay", "NoPack")


def written(function):
    return function.__name__ + str(inspect.signature(function))


def module(name):
    return importlib.import_module("graphpack." + name)


class InterfaceTest(unittest.TestCase):
    def test_functions(self):
        for name, functions in FUNCTIONS.items():
            for text in functions:
                self.assertEqual(written(getattr(module(name), text.partition("(")[0])), text)

    def test_classes(self):
        for (name, called), methods in METHODS.items():
            own = getattr(module(name), called)
            self.assertEqual(str(inspect.signature(own)), "()")
            for text in methods:
                self.assertEqual(written(getattr(own, text.partition("(")[0])), text)

    def test_errors(self):
        errors = module("errors")
        self.assertEqual(errors.WebError.__bases__, (ValueError,))
        for called in ERRORS:
            own = getattr(errors, called)
            self.assertTrue(issubclass(own, errors.WebError))
            self.assertFalse(any(issubclass(own, getattr(errors, other)) for other in ERRORS if other != called))

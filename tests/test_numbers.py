import unittest

from graphpack.numbers import folded, number_bytes, unfolded
from tests.pack_words import digits_of, fold
from tests.samples import Maker

FAR = 10 ** 60 - 1


def read_back(some):
    told = 0
    for byte in some:
        told = told * 128 + byte % 128
    return told


def asked_numbers():
    """Numbers from 0 on: the first ones, those about the powers of 128, and many between, up to sixty figures."""
    maker = Maker(5)
    found = list(range(1000))
    power = 1
    while power < 10 ** 60:
        found.extend([power * digit + by for digit in (1, 2, 64, 127) for by in (-2, -1, 0, 1, 2)])
        found.extend([power + maker.below(power) for _ in range(10)])
        power = power * 128
    return [number for number in found if 0 <= number <= FAR] + [FAR - 1, FAR, 10 ** 59, 10 ** 59 - 1]


class NumberBytesTest(unittest.TestCase):
    def test_by_hand(self):
        for number, some in ((0, [0]), (1, [1]), (127, [127]), (128, [129, 0]), (129, [129, 1]), (255, [129, 127]),
                             (256, [130, 0]), (300, [130, 44]), (16383, [255, 127]), (16384, [129, 128, 0]),
                             (16385, [129, 128, 1]), (16512, [129, 129, 0]), (2097151, [255, 255, 127]),
                             (2097152, [129, 128, 128, 0])):
            self.assertEqual(number_bytes(number), some)

    def test_about_each_power(self):
        power = 1
        for count in range(1, 30):
            power = power * 128
            self.assertEqual(number_bytes(power - 1), [255] * (count - 1) + [127])
            self.assertEqual(number_bytes(power), [129] + [128] * (count - 1) + [0])
            self.assertEqual(number_bytes(power + 1), [129] + [128] * (count - 1) + [1])

    def test_the_form(self):
        for number in asked_numbers():
            some = number_bytes(number)
            self.assertIs(type(some), list)
            self.assertTrue(all(type(byte) is int and 128 <= byte <= 255 for byte in some[:-1]), number)
            self.assertTrue(type(some[-1]) is int and 0 <= some[-1] <= 127, number)
            self.assertNotEqual(some[0], 128, number)
            self.assertEqual(read_back(some), number)
            self.assertEqual(some, digits_of(number))

    def test_no_two_numbers_have_the_same_bytes(self):
        numbers = set(asked_numbers())
        self.assertEqual(len({tuple(number_bytes(number)) for number in numbers}), len(numbers))

    def test_greater_ones_than_are_handed_in(self):
        # Bytes may tell such, and these may be packed again.
        number = 7 ** 9000
        self.assertEqual(read_back(number_bytes(number)), number)
        self.assertEqual(number_bytes(number), digits_of(number))


class FoldedTest(unittest.TestCase):
    def test_by_hand(self):
        for number, told in ((0, 0), (-1, 1), (1, 2), (-2, 3), (2, 4), (-3, 5), (-64, 127), (64, 128), (-65, 129)):
            self.assertEqual(folded(number), told)
            self.assertEqual(unfolded(told), number)
        self.assertEqual(folded(FAR), 2 * 10 ** 60 - 2)
        self.assertEqual(folded(-FAR), 2 * 10 ** 60 - 3)
        self.assertEqual(unfolded(FAR), -(10 ** 60) // 2)
        self.assertEqual(unfolded(FAR - 1), 10 ** 60 // 2 - 1)

    def test_there_and_back(self):
        for number in asked_numbers():
            for signed in (number, -number):
                told = folded(signed)
                self.assertIs(type(told), int)
                self.assertEqual(told, fold(signed))
                self.assertEqual(unfolded(told), signed)
            self.assertIs(type(unfolded(number)), int)
            self.assertEqual(folded(unfolded(number)), number)

    def test_each_number_from_0_on_is_told_just_once(self):
        self.assertEqual(sorted([folded(number) for number in range(-500, 500)]), list(range(1000)))
        self.assertEqual(sorted([unfolded(number) for number in range(1000)]), list(range(-500, 500)))


class StaysTest(unittest.TestCase):
    def test_what_is_told_is_the_askers_own(self):
        told = number_bytes(300)
        told.append(7)
        told[0] = 0
        self.assertEqual(number_bytes(300), [130, 44])

    def test_asked_again_the_same_is_told(self):
        for number in asked_numbers()[::50]:
            self.assertEqual(number_bytes(number), number_bytes(number))
            self.assertEqual(folded(-number), folded(-number))
            self.assertEqual(unfolded(number), unfolded(number))

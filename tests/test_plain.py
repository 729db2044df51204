import string
import unittest

from samples import not_numbers
from panehouse.plain import is_name, is_number, is_number_list, is_within, number_in


class Numbers(unittest.TestCase):
    def test_numbers(self):
        for n in [0, 1, 60, 9999, 10 ** 3999]:
            self.assertIs(is_number(n), True)

    def test_no_numbers(self):
        for thing in not_numbers():
            with self.subTest(repr(thing)):
                self.assertIs(is_number(thing), False)

    def test_numbers_within_bounds(self):
        self.assertEqual([n for n in range(-3, 9) if is_within(n, 2, 5)], [2, 3, 4, 5])
        self.assertEqual([n for n in range(-3, 9) if is_within(n, 0, 0)], [0])
        for thing in not_numbers():
            with self.subTest(repr(thing)):
                self.assertIs(is_within(thing, 0, 9), False)

    def test_lists_of_numbers(self):
        self.assertIs(is_number_list([]), True)
        self.assertIs(is_number_list([0, 1]), True)

    def test_no_lists_of_numbers(self):
        for thing in [(), (1,), None, "", "12", {}, {1: 1}, 5, [True], [0, False], [-1], [1.0], [[1]], [None]]:
            with self.subTest(repr(thing)):
                self.assertIs(is_number_list(thing), False)


class Written(unittest.TestCase):
    def test_numbers(self):
        for n in [0, 1, 9, 10, 99, 100, 400, 10 ** 3999]:
            self.assertEqual(number_in(str(n)), n)

    def test_all_else(self):
        for text in ["", "00", "01", "007", "+1", "-1", "-0", " 1", "1 ", "1_0", "1.0", "1\n", "a", "1a", "0x1",
                     "\u0663", "\u00b2", "\uff11", "9" * 5000]:
            with self.subTest(text):
                self.assertIsNone(number_in(text))


class Names(unittest.TestCase):
    def test_names(self):
        for name in list(string.ascii_lowercase) + ["a1", "z0123456", "abcdefgh", "a0000000"]:
            with self.subTest(name):
                self.assertIs(is_name(name), True)

    def test_all_signs_behind_the_first(self):
        for sign in string.ascii_lowercase + string.digits:
            self.assertIs(is_name("a" + sign), True)

    def test_no_names(self):
        wrong = ["", "abcdefghi", "1", "1a", "0a", "A", "aB", "a_", "_a", "a-b", "a b", " a", "a ", "a\n", "\n",
                 "\u00e9", "a\u00e9", "a\u0663", "\u0430", "a\u00b2", "a.b", "#a"]
        for name in wrong:
            with self.subTest(name):
                self.assertIs(is_name(name), False)

    def test_no_texts(self):
        for thing in not_numbers() + [3, ["a"], ("a",), {"a": 1}, b"a"]:
            with self.subTest(repr(thing)):
                self.assertIs(is_name(thing), False)

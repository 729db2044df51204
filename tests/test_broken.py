import itertools
import unittest

from retold import rows_by_hand
from samples import text_of_80
from panehouse.broken import broken, limited


class Limited(unittest.TestCase):
    def test_within_the_bounds(self):
        self.assertEqual([limited(n, 2, 5) for n in range(-3, 9)], [2, 2, 2, 2, 2, 2, 3, 4, 5, 5, 5, 5])
        self.assertEqual(limited(7, 7, 7), 7)

    def test_the_least_above_the_most(self):
        self.assertEqual([limited(n, 5, 2) for n in range(-3, 9)], [5] * 12)
        self.assertEqual([limited(n, 1, 0) for n in range(3)], [1] * 3)

    def test_below_nought(self):
        self.assertEqual(limited(-5, -9, -2), -5)
        self.assertEqual(limited(-50, -9, -2), -9)
        self.assertEqual(limited(50, -9, -2), -2)

    def test_any_size(self):
        self.assertEqual(limited(10 ** 50, 0, 400), 400)
        self.assertEqual(limited(10 ** 50, 10 ** 60, 400), 10 ** 60)

    def test_all_small_ones(self):
        for n, least, most in itertools.product(range(-3, 4), repeat=3):
            self.assertEqual(limited(n, least, most), max(least, min(n, most)))


class Broken(unittest.TestCase):
    def test_no_words(self):
        for wide in [0, 1, 80, 400]:
            self.assertEqual(broken("", wide), [])

    def test_as_many_as_fit(self):
        text = "one two three four"
        self.assertEqual(broken(text, 7), ["one two", "three", "four"])
        self.assertEqual(broken(text, 8), ["one two", "three", "four"])
        self.assertEqual(broken(text, 10), ["one two", "three four"])
        self.assertEqual(broken(text, 13), ["one two three", "four"])
        self.assertEqual(broken(text, 17), ["one two three", "four"])
        self.assertEqual(broken(text, 18), [text])
        self.assertEqual(broken(text, 400), [text])

    def test_words_as_long_as_the_width_and_one_more(self):
        self.assertEqual(broken("ab cd", 2), ["ab", "cd"])
        self.assertEqual(broken("abc cd", 2), ["abc", "cd"])
        self.assertEqual(broken("ab cd", 4), ["ab", "cd"])
        self.assertEqual(broken("ab cd", 5), ["ab cd"])
        self.assertEqual(broken("a b c", 3), ["a b", "c"])
        self.assertEqual(broken("abc", 3), ["abc"])
        self.assertEqual(broken("abcd", 3), ["abcd"])

    def test_one_word_at_least(self):
        self.assertEqual(broken("a", 0), ["a"])
        self.assertEqual(broken("a b c", 0), ["a", "b", "c"])
        self.assertEqual(broken("abcdef a b", 3), ["abcdef", "a b"])
        self.assertEqual(broken("a b abcdef", 3), ["a b", "abcdef"])

    def test_not_a_later_word_that_would_fit(self):
        self.assertEqual(broken("a abcdef b", 3), ["a", "abcdef", "b"])

    def test_all_widths(self):
        for text in [text_of_80(), "a " * 39 + "b", "Some words here", "aa b cccc dd e ffffff g", "x"]:
            for wide in list(range(90)) + [10 ** 30]:
                rows = broken(text, wide)
                self.assertEqual(rows, rows_by_hand(text, wide))
                self.assertEqual(" ".join(rows), text)

    def test_a_list_that_is_the_askers_own(self):
        for text in ["", "a b"]:
            rows = broken(text, 1)
            self.assertIs(type(rows), list)
            rows.append("c")
            self.assertEqual(broken(text, 1), text.split())

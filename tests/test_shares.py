import copy
import itertools
import unittest

from samples import not_numbers, share_by_hand
from panehouse.errors import NoShare
from panehouse.shares import is_share, share_out


class ShareOut(unittest.TestCase):
    def test_no_weights(self):
        self.assertEqual(share_out(0, []), [])
        self.assertEqual(share_out(7, []), [])
        self.assertEqual(share_out(7, ()), [])

    def test_all_weights_0(self):
        self.assertEqual(share_out(7, [0]), [0])
        self.assertEqual(share_out(7, [0, 0, 0]), [0, 0, 0])

    def test_a_total_of_0(self):
        self.assertEqual(share_out(0, [1, 2, 0]), [0, 0, 0])

    def test_nothing_is_left(self):
        self.assertEqual(share_out(6, [1, 2, 3]), [1, 2, 3])
        self.assertEqual(share_out(12, [1, 0, 3]), [3, 0, 9])

    def test_the_greatest_rest_is_served_first(self):
        self.assertEqual(share_out(10, [1, 2, 4]), [1, 3, 6])
        self.assertEqual(share_out(10, [4, 2, 1]), [6, 3, 1])
        self.assertEqual(share_out(1, [1, 2, 1]), [0, 1, 0])

    def test_of_like_rests_the_first_is_served(self):
        self.assertEqual(share_out(10, [1, 1, 1]), [4, 3, 3])
        self.assertEqual(share_out(11, [1, 1, 1]), [4, 4, 3])
        self.assertEqual(share_out(1, [1, 1]), [1, 0])
        self.assertEqual(share_out(2, [0, 3, 3, 0, 3]), [0, 1, 1, 0, 0])

    def test_60_weights(self):
        self.assertEqual(share_out(61, [1] * 60), [2] + [1] * 59)
        self.assertEqual(share_out(59, [1] * 60), [1] * 59 + [0])

    def test_a_tuple_does_too(self):
        self.assertEqual(share_out(10, (1, 1, 1)), [4, 3, 3])

    def test_numbers_of_any_size(self):
        big = 10 ** 3000
        self.assertEqual(share_out(big + 1, [big, big]), [big // 2 + 1, big // 2])
        self.assertEqual(share_out(5, [big, 1]), [5, 0])
        self.assertEqual(share_out(10 ** 3999, [1]), [10 ** 3999])
        weights = [3 ** k for k in range(60)]
        self.assertEqual(share_out(big, weights), share_by_hand(big, weights))
        self.assertEqual(sum(share_out(big, weights)), big)

    def test_as_told_for_all_small_ones(self):
        for many in range(5):
            for weights in itertools.product(range(4), repeat=many):
                for total in range(9):
                    shares = share_out(total, list(weights))
                    self.assertEqual(shares, share_by_hand(total, weights), (total, weights))
                    self.check_due(total, weights, shares)

    def check_due(self, total, weights, shares):
        whole = sum(weights)
        if whole == 0:
            return
        self.assertEqual(sum(shares), total)
        for share, weight in zip(shares, weights):
            self.assertLess(abs(share * whole - total * weight), whole)

    def test_the_answer_is_a_list_of_whole_numbers(self):
        for weights in [[1, 2], (1, 2), [0, 0], (0,)]:
            shares = share_out(5, weights)
            self.assertIs(type(shares), list)
            self.assertEqual({type(n) for n in shares}, {int})


class Refused(unittest.TestCase):
    def refuse(self, total, weights):
        with self.assertRaises(NoShare) as caught:
            share_out(total, weights)
        self.assertIs(type(caught.exception), NoShare)
        with self.assertRaises(NoShare) as caught:
            is_share(total, weights, [])
        self.assertIs(type(caught.exception), NoShare)

    def test_a_total_that_is_no_number(self):
        for total in not_numbers():
            with self.subTest(repr(total)):
                self.refuse(total, [1, 2])
                self.refuse(total, [])

    def test_a_weight_that_is_no_number(self):
        for weight in not_numbers():
            with self.subTest(repr(weight)):
                self.refuse(5, [1, weight])
                self.refuse(5, (weight, 1))
                self.refuse(0, [weight])

    def test_no_list_of_weights(self):
        for weights in [None, True, 0, 5, 1.5, "", "12", b"12", {}, {1: 2}, set(), {1}, range(3), object(),
                        iter([1, 2])]:
            with self.subTest(repr(weights)):
                self.refuse(5, weights)

    def test_more_than_60(self):
        self.refuse(5, [1] * 61)
        self.refuse(5, (0,) * 61)


class IsShare(unittest.TestCase):
    def test_the_share_itself(self):
        for total, weights in [(0, []), (7, [0, 0]), (10, [1, 1, 1]), (10, (1, 2, 4)), (10 ** 3000, [1, 2])]:
            self.assertIs(is_share(total, weights, share_out(total, weights)), True)

    def test_just_one_list_is_it(self):
        for total, weights in [(3, [1, 1, 1]), (4, [1, 2, 0]), (2, [1, 1, 1]), (3, [0, 0, 0])]:
            let_by = [row for row in itertools.product(range(6), repeat=3) if is_share(total, weights, list(row))]
            self.assertEqual(let_by, [tuple(share_out(total, weights))])

    def test_other_lengths(self):
        self.assertIs(is_share(2, [1, 1], [1, 1, 0]), False)
        self.assertIs(is_share(2, [1, 1], [2]), False)
        self.assertIs(is_share(2, [1, 1], []), False)
        self.assertIs(is_share(2, [], [2]), False)

    def test_truths_are_no_numbers(self):
        self.assertIs(is_share(1, [1, 1], [1, 0]), True)
        for row in [[True, 0], [1, False], [True, False], [1.0, 0], [1, 0.0]]:
            self.assertIs(is_share(1, [1, 1], row), False)

    def test_rows_of_any_kind(self):
        inside_itself = []
        inside_itself.append(inside_itself)
        rows = not_numbers() + [0, 1, (1, 0), [[1], [0]], [None, None], ["1", "0"], inside_itself, {0: 1, 1: 0}]
        for row in rows:
            with self.subTest(repr(row)):
                self.assertIs(is_share(1, [1, 1], row), False)
        self.assertIs(is_share(1, [], ()), False)
        self.assertIs(is_share(1, [], {}), False)

    def test_things_within_the_row_of_any_kind(self):
        for thing in not_numbers():
            with self.subTest(repr(thing)):
                self.assertIs(is_share(1, [1, 1], [1, thing]), False)
                self.assertIs(is_share(1, [1], [thing]), False)


class AsItWas(unittest.TestCase):
    def test_what_is_handed_in_stays(self):
        for weights in [[3, 1, 2], [0, 0], [], [1] * 60]:
            ahead = copy.deepcopy(weights)
            share_out(10, weights)
            row = share_out(10, weights)
            row_ahead = list(row)
            is_share(10, weights, row)
            is_share(10, weights, row[:-1])
            self.assertEqual(weights, ahead)
            self.assertEqual(row, row_ahead)

    def test_what_is_refused_stays(self):
        weights = [3, True, 2]
        self.assertRaises(NoShare, share_out, 10, weights)
        self.assertEqual(repr(weights), "[3, True, 2]")

    def test_what_is_told_is_the_askers_own(self):
        for weights in [[1, 1, 1], [0, 0], [5]]:
            told = share_out(10, weights)
            ahead = list(told)
            told[0] = 99
            told.append(7)
            self.assertEqual(share_out(10, weights), ahead)
            self.assertIs(is_share(10, weights, told), False)
            self.assertIs(is_share(10, weights, ahead), True)

    def test_no_answer_is_the_list_handed_in(self):
        weights = [0, 0]
        self.assertIsNot(share_out(0, weights), weights)

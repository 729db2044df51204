import copy
import itertools
import unittest

from retold import rounds_by_hand, sizes_by_hand
from samples import not_numbers
from panehouse.errors import NoShare
from panehouse.fills import fill_rounds, fill_sizes, is_fill


class Filled(unittest.TestCase):
    def check(self, total, parts, rounds, sizes):
        self.assertEqual(fill_rounds(total, parts), rounds)
        self.assertEqual(fill_sizes(total, parts), sizes)
        self.assertIs(is_fill(total, parts, sizes, rounds), True)

    def test_no_parts(self):
        self.check(0, [], [], [])
        self.check(9, [], [], [])
        self.check(9, (), [], [])

    def test_a_total_at_the_sum_of_the_begins(self):
        self.check(9, [(4, 0, 9, 1), (5, 5, 5, 0)], [], [4, 5])
        self.check(0, [(0, 0, 9, 1)], [], [0])

    def test_given_in_one_round(self):
        self.check(10, [(1, 0, 99, 1), (1, 0, 99, 3)], [[2, 6]], [3, 7])

    def test_the_weights_share_out_and_not_the_rooms(self):
        self.check(4, [(0, 0, 9, 3), (0, 0, 99, 1)], [[3, 1]], [3, 1])

    def test_given_in_rounds(self):
        parts = [(0, 0, 2, 1), (0, 0, 5, 1), (0, 0, 99, 1)]
        self.check(20, parts, [[2, 5, 6], [0, 0, 7]], [2, 5, 13])
        self.check(10, parts, [[2, 3, 3], [0, 1, 1]], [2, 4, 4])
        self.check(13, parts, [[2, 4, 4], [0, 1, 1], [0, 0, 1]], [2, 5, 6])

    def test_a_share_that_isnt_taken_goes_by_the_weights_of_those_with_room(self):
        parts = [(0, 0, 1, 8), (0, 0, 50, 1), (0, 0, 50, 2)]
        self.check(12, parts, [[1, 1, 2], [0, 3, 5]], [1, 4, 7])

    def test_parts_at_their_most_get_nothing(self):
        self.check(10, [(3, 0, 3, 9), (1, 0, 9, 1)], [[0, 6]], [3, 7])

    def test_the_rest_stays_where_all_are_at_their_most(self):
        self.check(99, [(1, 0, 3, 1), (2, 0, 4, 5)], [[2, 2]], [3, 4])
        self.check(99, [(3, 0, 3, 1)], [], [3])

    def test_the_rest_stays_where_nobody_of_a_weight_has_room(self):
        self.check(9, [(1, 0, 9, 0), (2, 2, 9, 0)], [], [1, 2])
        self.check(30, [(1, 0, 9, 0), (2, 0, 4, 1)], [[0, 2]], [1, 4])

    def test_the_first_of_like_ones_gets_the_last_cell(self):
        self.check(1, [(0, 0, 9, 1), (0, 0, 9, 1)], [[1, 0]], [1, 0])

    def test_taken_by_what_is_above_the_least(self):
        self.check(10, [(10, 4, 10, 0), (6, 4, 9, 7)], [[5, 1]], [5, 5])
        self.check(7, [(4, 0, 4, 0), (4, 0, 4, 9)], [[1, 0]], [3, 4])

    def test_parts_at_their_least_lose_nothing(self):
        self.check(6, [(5, 5, 9, 1), (5, 0, 9, 1)], [[0, 4]], [5, 1])

    def test_no_more_is_taken_than_all_above_the_leasts(self):
        self.check(3, [(5, 4, 9, 1), (5, 2, 9, 1)], [[1, 3]], [4, 2])
        self.check(6, [(5, 4, 9, 1), (5, 2, 9, 1)], [[1, 3]], [4, 2])
        self.check(0, [(5, 4, 9, 1), (5, 2, 9, 1)], [[1, 3]], [4, 2])

    def test_nothing_is_taken_where_all_are_at_their_least(self):
        self.check(0, [(5, 5, 9, 1), (3, 3, 3, 0)], [], [5, 3])

    def test_60_parts(self):
        self.check(61, [(1, 0, 9, 1)] * 60, [[1] + [0] * 59], [2] + [1] * 59)
        self.check(59, [(1, 0, 9, 1)] * 60, [[1] + [0] * 59], [0] + [1] * 59)

    def test_many_rounds(self):
        parts = [(0, 0, most, 1) for most in range(1, 61)]
        rounds = fill_rounds(1830, parts)
        self.assertEqual(rounds, rounds_by_hand(1830, parts))
        self.assertEqual(fill_sizes(1830, parts), list(range(1, 61)))
        self.assertEqual(fill_sizes(10 ** 3000, parts), list(range(1, 61)))
        self.assertGreater(len(rounds), 3)

    def test_numbers_up_to_9999(self):
        self.check(9999, [(9999, 9999, 9999, 9999)], [], [9999])
        self.check(9999, [(0, 0, 9999, 9999)], [[9999]], [9999])
        self.check(0, [(9999, 0, 9999, 0)], [[9999]], [0])

    def test_a_total_of_any_size(self):
        self.check(10 ** 3999, [(0, 0, 9, 1), (0, 0, 0, 1)], [[9, 0]], [9, 0])

    def test_a_tuple_does_too(self):
        self.check(10, ((1, 0, 99, 1), (1, 0, 99, 3)), [[2, 6]], [3, 7])

    def test_the_answers_are_lists_of_whole_numbers(self):
        for total in [0, 3, 10]:
            parts = ((1, 0, 2, 1), (1, 0, 9, 3), (1, 1, 1, 0))
            rounds = fill_rounds(total, parts)
            self.assertIs(type(rounds), list)
            for row in rounds + [fill_sizes(total, parts)]:
                self.assertIs(type(row), list)
                self.assertEqual({type(n) for n in row}, {int})

    def test_as_told_for_all_small_ones(self):
        small = [part for part in itertools.product(range(4), range(3), range(4), range(3))
                 if part[1] <= part[0] <= part[2]]
        some = [(0, 0, 3, 2), (2, 1, 3, 1), (3, 0, 3, 0), (1, 1, 2, 2)]
        for parts in itertools.product(small, some, some):
            for total in [0, 2, 4, 6, 8]:
                self.check(total, parts, rounds_by_hand(total, parts), sizes_by_hand(total, parts))

    def test_sizes_keep_to_least_and_most_and_reach_the_total(self):
        some = [(0, 0, 3, 2), (2, 1, 3, 1), (3, 0, 3, 0), (1, 1, 7, 2), (4, 2, 9, 5)]
        for parts in itertools.product(some, repeat=3):
            for total in range(0, 30):
                sizes = fill_sizes(total, parts)
                for size, part in zip(sizes, parts):
                    self.assertTrue(part[1] <= size <= part[2])
                if sum(sizes) > total:
                    self.assertEqual(sizes, [part[1] for part in parts])
                if sum(sizes) < total:
                    self.assertTrue(all(size == part[2] or part[3] == 0 for size, part in zip(sizes, parts)))


class Refused(unittest.TestCase):
    def refuse(self, total, parts):
        for deed in [lambda: fill_rounds(total, parts), lambda: fill_sizes(total, parts),
                     lambda: is_fill(total, parts, [], []), lambda: is_fill(total, parts, None, None)]:
            with self.assertRaises(NoShare) as caught:
                deed()
            self.assertIs(type(caught.exception), NoShare)

    def test_a_total_that_is_no_number(self):
        for total in not_numbers():
            with self.subTest(repr(total)):
                self.refuse(total, [(1, 0, 2, 1)])
                self.refuse(total, [])

    def test_no_list_of_parts(self):
        for parts in [None, True, 0, 5, "", "abcd", {}, {(1, 0, 2, 1): 1}, set(), {(1, 0, 2, 1)}, object(),
                      iter([(1, 0, 2, 1)]), range(4)]:
            with self.subTest(repr(parts)):
                self.refuse(5, parts)

    def test_a_part_that_is_none(self):
        wrong = not_numbers() + [5, [1, 0, 2, 1], (1, 0, 2), (1, 0, 2, 1, 1), "1021", {0: 1, 1: 0, 2: 2, 3: 1},
                                 ((1, 0, 2, 1),)]
        for part in wrong:
            with self.subTest(repr(part)):
                self.refuse(5, [part])
                self.refuse(5, ((1, 0, 2, 1), part))

    def test_something_in_a_part_that_is_no_number(self):
        for thing in not_numbers():
            for place in range(4):
                part = [1, 1, 1, 1]
                part[place] = thing
                with self.subTest(repr(part)):
                    self.refuse(1, [tuple(part)])

    def test_more_than_9999(self):
        self.refuse(5, [(1, 0, 10000, 1)])
        self.refuse(5, [(1, 0, 2, 10000)])
        self.refuse(5, [(10000, 0, 10000, 1)])
        self.refuse(5, [(10000, 10000, 10000, 1)])

    def test_least_above_begin_and_begin_above_most(self):
        self.refuse(5, [(1, 2, 3, 1)])
        self.refuse(5, [(3, 1, 2, 1)])
        self.refuse(5, [(3, 2, 2, 0)])
        self.refuse(5, [(0, 1, 0, 0)])

    def test_more_than_60(self):
        self.refuse(5, [(1, 0, 2, 1)] * 61)
        self.refuse(5, ((1, 0, 2, 1),) * 61)


class IsFill(unittest.TestCase):
    PARTS = [(0, 0, 1, 1), (0, 0, 9, 1)]
    ROWS = [[1, 2], [0, 1]]
    SIZES = [1, 3]

    def let_by(self, sizes, rows):
        return is_fill(4, self.PARTS, sizes, rows)

    def test_the_right_ones(self):
        self.assertEqual(fill_rounds(4, self.PARTS), self.ROWS)
        self.assertIs(self.let_by(self.SIZES, self.ROWS), True)

    def test_other_sizes(self):
        for sizes in [[1, 2], [0, 3], [1, 3, 0], [1], [], [3, 1]]:
            self.assertIs(self.let_by(sizes, self.ROWS), False)

    def test_other_rounds(self):
        for rows in [[], [[1, 3]], [[1, 2]], [[0, 1], [1, 2]], [[1, 2], [0, 1], [0, 0]], [[0, 0], [1, 2], [0, 1]],
                     [[1, 2, 0], [0, 1]], [[1, 2], []], [[], [1, 2], [0, 1]], [[1, 1], [0, 2]]]:
            self.assertIs(self.let_by(self.SIZES, rows), False)

    def test_a_round_in_which_nobody_gets_anything_isnt_one(self):
        self.assertIs(is_fill(3, [(3, 0, 3, 1)], [3], []), True)
        self.assertIs(is_fill(3, [(3, 0, 3, 1)], [3], [[0]]), False)
        self.assertIs(is_fill(9, [], [], []), True)
        self.assertIs(is_fill(9, [], [], [[]]), False)

    def test_what_is_taken_is_told_without_a_sign(self):
        self.assertIs(is_fill(3, [(4, 0, 9, 1)], [3], [[1]]), True)
        self.assertIs(is_fill(3, [(4, 0, 9, 1)], [3], [[-1]]), False)
        self.assertIs(is_fill(3, [(4, 0, 9, 1)], [5], [[1]]), False)

    def test_truths_are_no_numbers(self):
        for sizes in [[True, 3], [1.0, 3]]:
            self.assertIs(self.let_by(sizes, self.ROWS), False)
        for rows in [[[True, 2], [0, 1]], [[1, 2], [False, 1]], [[1, 2], [0, 1.0]]]:
            self.assertIs(self.let_by(self.SIZES, rows), False)

    def test_things_of_any_kind(self):
        inside_itself = []
        inside_itself.append(inside_itself)
        wrong = not_numbers() + [0, 4, inside_itself, [inside_itself], [None], [[None]], ["", ""], {0: 1, 1: 3}]
        for thing in wrong:
            with self.subTest(repr(thing)):
                self.assertIs(self.let_by(thing, self.ROWS), False)
                self.assertIs(self.let_by(self.SIZES, thing), False)
                self.assertIs(self.let_by(thing, thing), False)
                self.assertIs(self.let_by(self.SIZES, [thing, [0, 1]]), False)
                self.assertIs(self.let_by(self.SIZES, [[1, 2], [0, thing]]), False)
                self.assertIs(self.let_by([1, thing], self.ROWS), False)

    def test_tuples_are_no_lists_here(self):
        self.assertIs(self.let_by((1, 3), self.ROWS), False)
        self.assertIs(self.let_by(self.SIZES, ([1, 2], [0, 1])), False)
        self.assertIs(self.let_by(self.SIZES, [(1, 2), (0, 1)]), False)
        self.assertIs(is_fill(9, [], (), []), False)
        self.assertIs(is_fill(9, [], [], ()), False)


class AsItWas(unittest.TestCase):
    CASES = [(4, [(0, 0, 1, 1), (0, 0, 9, 1)]), (1, [(3, 0, 3, 1), (2, 1, 9, 1)]), (5, [(5, 0, 9, 1)])]

    def test_what_is_handed_in_stays(self):
        for total, parts in self.CASES:
            ahead = copy.deepcopy(parts)
            rows = fill_rounds(total, parts)
            sizes = fill_sizes(total, parts)
            rows_ahead = copy.deepcopy(rows)
            sizes_ahead = list(sizes)
            is_fill(total, parts, sizes, rows)
            is_fill(total, parts, sizes, rows + [[0]])
            self.assertEqual(parts, ahead)
            self.assertEqual(rows, rows_ahead)
            self.assertEqual(sizes, sizes_ahead)

    def test_what_is_refused_stays(self):
        parts = [(1, 0, 2, 1), [1, 0, 2, 1]]
        self.assertRaises(NoShare, fill_sizes, 9, parts)
        self.assertEqual(parts, [(1, 0, 2, 1), [1, 0, 2, 1]])

    def test_what_is_told_is_the_askers_own(self):
        for total, parts in self.CASES:
            rows = fill_rounds(total, parts)
            sizes = fill_sizes(total, parts)
            rows_ahead = copy.deepcopy(rows)
            sizes_ahead = list(sizes)
            for row in rows:
                row[0] = 77
                row.append(5)
            rows.append([1])
            sizes[0] = 88
            sizes.append(5)
            self.assertEqual(fill_rounds(total, parts), rows_ahead)
            self.assertEqual(fill_sizes(total, parts), sizes_ahead)
            self.assertIs(is_fill(total, parts, sizes_ahead, rows_ahead), True)

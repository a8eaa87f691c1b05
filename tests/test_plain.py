"""count_of and is_good of pairhues.plain."""

import copy
import itertools
import unittest

from pairhues import plain
from pairhues.plain import count_of, is_good

GREAT = 10 ** 20


def slow_count(rows):
    """The count, told straight from the document: each end with each row."""
    count = 0
    for side in (0, 1):
        for row in rows:
            meeting = [other for other in rows if other[side] == row[side]]
            count = max(count, len(meeting))
    return count


def slow_good(rows):
    """What is_good promises, told straight from the document: each two rows."""
    for one, other in itertools.combinations(rows, 2):
        meet = one[0] == other[0] or one[1] == other[1]
        if meet and one[2] == other[2]:
            return False
    return all(row[2] < slow_count(rows) for row in rows)


class CountOfTest(unittest.TestCase):

    def check(self, rows, count):
        before = copy.deepcopy(rows)
        told = count_of(rows)
        self.assertEqual(told, count)
        self.assertIs(type(told), int)
        self.assertEqual(rows, before)

    def test_it_is_defined_in_its_file(self):
        self.assertEqual(count_of.__module__, "pairhues.plain")

    def test_the_empty_list(self):
        self.check([], 0)

    def test_one_row(self):
        self.check([(0, 0)], 1)
        self.check([(3, 5)], 1)
        self.check([(GREAT, 0)], 1)

    def test_rows_of_two_items(self):
        self.check([(0, 1), (0, 2), (1, 2)], 2)

    def test_rows_of_three_items(self):
        self.check([(0, 1, 0), (0, 2, 1), (1, 2, 0)], 2)

    def test_rows_of_more_items(self):
        self.check([(0, 1, 7, 7), (0, 2, 7, 7, 7), (1, 2, 7, 7)], 2)

    def test_rows_of_different_lengths(self):
        self.check([(4, 1), (4, 2, 0), (4, 3, 0, "x")], 3)

    def test_what_stands_behind_the_ends_may_be_anything(self):
        self.check([(0, 1, [1]), (0, 2, {"a": []}), (0, 3, None, {2}), (5, 3, "x", -1)], 3)

    def test_items_behind_the_ends_are_no_ends(self):
        self.check([(0, 1, 9), (2, 3, 9), (4, 5, 9)], 1)
        self.check([(0, 1, 0), (2, 3, 0), (4, 5, 1)], 1)

    def test_ends_far_apart(self):
        self.check([(0, GREAT), (10 ** 6, GREAT), (GREAT, 3)], 2)

    def test_very_great_ends(self):
        self.check([(GREAT, GREAT + 1), (GREAT, GREAT + 2), (GREAT + 1, GREAT + 2)], 2)
        self.check([(GREAT, GREAT), (GREAT + 1, GREAT + 1)], 1)
        self.check([(0, 0), (2 ** 61 - 1, 2 ** 61 - 1), (2 ** 64, 2 ** 64)], 1)

    def test_a_left_and_a_right_end_of_one_number_are_two_ends(self):
        self.check([(0, 1), (1, 0)], 1)
        self.check([(0, 0), (1, 1)], 1)
        self.check([(3, 3)], 1)
        self.check([(0, 1), (1, 2), (2, 0), (3, 3)], 1)
        self.check([(5, 0), (5, 1), (2, 5), (3, 5)], 2)

    def test_the_fullest_end_on_the_left_alone(self):
        self.check([(7, 0), (7, 1), (7, 2), (8, 2)], 3)

    def test_the_fullest_end_on_the_right_alone(self):
        self.check([(0, 7), (1, 7), (2, 7), (2, 8)], 3)

    def test_the_fullest_end_comes_first_in_between_or_last(self):
        self.check([(0, 0), (0, 1), (1, 2), (2, 3)], 2)
        self.check([(1, 2), (0, 0), (0, 1), (2, 3)], 2)
        self.check([(1, 2), (2, 3), (0, 0), (0, 1)], 2)
        self.check([(0, 0), (1, 1), (0, 2), (1, 3), (0, 4)], 3)

    def test_the_same_row_twice(self):
        self.check([(0, 0), (0, 0)], 2)
        self.check([(0, 0, 1), (0, 0, 1), (0, 0, 1)], 3)
        row = (2, 9)
        self.check([row, (1, 9), row], 3)

    def test_many_rows(self):
        self.check([(at, 0) for at in range(500)], 500)
        self.check([(0, at) for at in range(500)], 500)
        self.check([(at, at) for at in range(500)], 1)

    def test_every_small_list_of_rows(self):
        ends = list(itertools.product(range(3), range(2)))
        for many in range(5):
            for rows in itertools.product(ends, repeat=many):
                self.assertEqual(count_of(list(rows)), slow_count(rows), rows)

    def test_a_list_is_not_kept(self):
        rows = [(0, 0), (0, 1)]
        self.assertEqual(count_of(rows), 2)
        rows.append((0, 2))
        self.assertEqual(count_of(rows), 3)
        rows.clear()
        self.assertEqual(count_of(rows), 0)

    def test_the_very_rows_stay_in_the_list(self):
        rows = [(0, 1, [4]), (0, 1, [5])]
        kept = list(rows)
        count_of(rows)
        self.assertEqual([id(row) for row in rows], [id(row) for row in kept])


class IsGoodTest(unittest.TestCase):

    def check(self, rows, good):
        before = list(rows)
        told = is_good(rows)
        self.assertIs(told, good)
        self.assertEqual(rows, before)

    def test_it_is_defined_in_its_file(self):
        self.assertEqual(is_good.__module__, "pairhues.plain")

    def test_the_empty_list(self):
        self.check([], True)

    def test_one_row(self):
        self.check([(0, 0, 0)], True)
        self.check([(4, 9, 0)], True)
        self.check([(0, 0, 1)], False)

    def test_good_rows(self):
        self.check([(0, 0, 0), (0, 1, 1), (1, 0, 1), (1, 1, 0)], True)
        self.check([(0, 0, 2), (0, 0, 0), (0, 0, 1)], True)
        self.check([(0, 0, 1), (0, 1, 0), (5, 5, 1)], True)

    def test_two_of_one_hue_at_one_left_end(self):
        self.check([(0, 0, 0), (0, 1, 0)], False)
        self.check([(3, 0, 1), (3, 1, 0), (3, 2, 1)], False)

    def test_two_of_one_hue_at_one_right_end(self):
        self.check([(0, 0, 0), (1, 0, 0)], False)
        self.check([(0, 3, 1), (1, 3, 0), (2, 3, 1)], False)

    def test_two_of_one_hue_at_both_ends(self):
        self.check([(2, 3, 0), (2, 3, 0)], False)
        self.check([(2, 3, 1), (2, 3, 0), (2, 3, 1)], False)

    def test_a_left_and_a_right_end_of_one_number_do_not_meet(self):
        self.check([(0, 1, 0), (1, 0, 0)], True)
        self.check([(0, 0, 0), (1, 1, 0)], True)
        self.check([(4, 2, 0), (2, 4, 0), (4, 4, 1), (2, 2, 1)], True)

    def test_two_of_one_hue_that_do_not_meet(self):
        self.check([(0, 0, 0), (1, 1, 0), (2, 2, 0)], True)

    def test_a_hue_as_great_as_the_count(self):
        self.check([(0, 0, 0), (0, 1, 2)], False)
        self.check([(0, 0, 2), (0, 1, 0)], False)
        self.check([(0, 0, 0), (1, 1, 1)], False)

    def test_a_hue_greater_than_the_count(self):
        self.check([(0, 0, 0), (0, 1, 3)], False)
        self.check([(0, 0, 0), (0, 1, 1), (7, 7, 3)], False)

    def test_the_greatest_hue_is_the_count_less_one(self):
        self.check([(0, 0, 0), (0, 1, 1)], True)
        self.check([(0, 0, 1), (1, 0, 0)], True)
        self.check([(0, at, at) for at in range(9)], True)
        self.check([(0, at, at + 1) for at in range(9)], False)

    def test_hues_below_the_count_need_not_all_be_had(self):
        self.check([(0, 0, 0), (0, 1, 1), (1, 0, 1), (2, 2, 1)], True)

    def test_the_count_is_of_the_fullest_end_not_of_the_rows_own_ends(self):
        self.check([(0, 0, 0), (0, 1, 1), (5, 5, 1)], True)
        self.check([(0, 0, 0), (1, 0, 1), (5, 5, 1)], True)

    def test_the_same_row_twice(self):
        self.check([(0, 0, 0), (0, 0, 0)], False)
        row = (6, 1, 1)
        self.check([row, (6, 2, 0), row], False)

    def test_very_great_ends(self):
        self.check([(GREAT, 0, 0), (GREAT, 1, 1)], True)
        self.check([(GREAT, 0, 0), (GREAT, 1, 0)], False)
        self.check([(0, GREAT, 0), (1, GREAT, 1)], True)
        self.check([(0, GREAT, 0), (1, GREAT, 0)], False)
        self.check([(GREAT, GREAT, 0), (GREAT + 1, GREAT + 1, 0)], True)

    def test_very_great_hues(self):
        self.check([(0, 0, GREAT)], False)
        self.check([(0, 0, 0), (0, 1, GREAT)], False)
        self.check([(GREAT, GREAT, GREAT), (GREAT, GREAT, 0)], False)

    def test_the_order_of_the_rows_does_not_matter(self):
        good = [(0, 0, 0), (0, 1, 1), (1, 1, 0)]
        bad = [(0, 0, 0), (0, 1, 1), (1, 1, 1)]
        for rows in itertools.permutations(good):
            self.check(list(rows), True)
        for rows in itertools.permutations(bad):
            self.check(list(rows), False)

    def test_every_small_list_of_rows(self):
        kinds = list(itertools.product(range(2), range(2), range(3)))
        for many in range(5):
            for rows in itertools.product(kinds, repeat=many):
                self.assertIs(is_good(list(rows)), slow_good(rows), rows)

    def test_a_list_is_not_kept(self):
        rows = [(0, 0, 0)]
        self.assertIs(is_good(rows), True)
        rows.append((0, 1, 0))
        self.assertIs(is_good(rows), False)
        rows[1] = (0, 1, 1)
        self.assertIs(is_good(rows), True)


class PlainFileTest(unittest.TestCase):

    def test_no_list_or_dict_at_module_level_keeps_what_was_asked(self):
        count_of([(1, 2), (1, 3)])
        is_good([(1, 2, 0), (1, 3, 1)])
        kinds = [type(worth) for name, worth in vars(plain).items() if not name.startswith("__")]
        self.assertEqual([kind for kind in kinds if kind in (list, dict, set)], [])


if __name__ == "__main__":
    unittest.main()

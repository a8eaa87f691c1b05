"""pairhues.halls: what a hall takes, tells and refuses."""

import copy
import itertools
import unittest

from pairhues import halls
from pairhues.errors import (BadCount, BadEnd, BadHue, BadSide, NoPair, NotFree, PairError,
                             TooMany)
from pairhues.halls import MOST_ENDS, MOST_PAIRS, Hall
from tests import second_way
from tests.second_way import NEVER_SIDES, NEVER_WHOLE, SIDES

# By these pairs, in this order, each hue and each chain is forced.
CHAIN_OF_ONE = ((2, 3), [(0, 0), (1, 1), (1, 2), (0, 2)])
CHAIN_OF_ONE_MIRRORED = ((3, 2), [(0, 0), (1, 1), (2, 1), (2, 0)])
CHAIN_OF_TWO = ((4, 3), [(0, 0), (1, 1), (1, 2), (2, 0), (3, 1), (0, 2)])
# 3 and 4 have the hues 0 and 1, in either order; 5 and 6 have the hue 2.
FALLING = ((3, 4), [(0, 0), (1, 1), (1, 2), (2, 3), (2, 3), (2, 3), (0, 2)])


def filled(sizes, pairs):
    """A hall to which some pairs came."""
    hall = Hall(*sizes)
    for left, right in pairs:
        hall.come(left, right)
    return hall


def all_told(hall, sizes):
    """All that a hall tells when asked, in one value."""
    count = hall.count()
    hues = range(count)
    numbers = [row[0] for row in hall.pairs()]
    told = [count, hall.pairs(), hall.fullest(), [hall.hue_of(number) for number in numbers],
            [hall.of_hue(hue) for hue in hues]]
    for side in (0, 1):
        for end in range(sizes[side]):
            free = hall.free(SIDES[side], end)
            told.append(free)
            told += [hall.chain(SIDES[side], end, one, other)
                     for one in free for other in hues if other != one]
    return told


def plainly(pairs, sizes):
    """What all_told tells of these pairs, worked out the second way."""
    count = second_way.count_of(pairs)
    hues = range(count)
    told = [count, pairs, tuple(second_way.fullest(pairs, side, sizes[side]) for side in (0, 1)),
            [pair[3] for pair in pairs],
            [[pair[0] for pair in pairs if pair[3] == hue] for hue in hues]]
    for side in (0, 1):
        for end in range(sizes[side]):
            free = second_way.free_at(pairs, side, end, count)
            told.append(free)
            told += [second_way.chain_of(pairs, side, end, one, other)
                     for one in free for other in hues if other != one]
    return told


def spoil(told):
    """Change every list within something that was told."""
    if type(told) is list or type(told) is tuple:
        for part in told:
            spoil(part)
    if type(told) is list:
        told[:] = ["spoilt"] + told[1:] + [77]


class HallCase(unittest.TestCase):

    def refused(self, kind, call, *given):
        """A refusal by this very class, that changes nothing of a hall."""
        hall = getattr(call, "__self__", None)
        before = hall and (hall.pairs(), hall.count())
        with self.assertRaises(PairError) as caught:
            call(*given)
        self.assertIs(type(caught.exception), kind)
        self.assertEqual(hall and (hall.pairs(), hall.count()), before)


class SizesTest(HallCase):

    def test_the_two_numbers(self):
        self.assertEqual((MOST_ENDS, MOST_PAIRS), (8, 40))
        self.assertEqual((type(MOST_ENDS), type(MOST_PAIRS)), (int, int))

    def test_the_class_and_its_methods_are_defined_in_their_file(self):
        self.assertEqual(Hall.__module__, "pairhues.halls")
        for name in ("__init__", "come", "go", "count", "pairs", "hue_of", "of_hue", "free",
                     "fullest", "chain"):
            self.assertIn(name, vars(Hall))

    def test_every_good_size(self):
        for lefts in range(1, 9):
            for rights in range(1, 9):
                hall = Hall(lefts, rights)
                self.assertEqual(hall.pairs(), [])
                self.assertEqual(hall.come(lefts - 1, rights - 1), (0, 0, None, []))
                self.refused(BadEnd, hall.come, lefts, 0)
                self.refused(BadEnd, hall.come, 0, rights)

    def test_bad_counts_of_either_side(self):
        for bad in NEVER_WHOLE + (0, 9):
            self.refused(BadCount, Hall, bad, 3)
            self.refused(BadCount, Hall, 3, bad)
            self.refused(BadCount, Hall, bad, bad)

    def test_a_new_hall_has_nothing(self):
        hall = Hall(2, 3)
        self.assertEqual(hall.count(), 0)
        self.assertEqual(hall.pairs(), [])
        self.assertEqual(hall.fullest(), ([], []))
        self.assertEqual([hall.free("left", end) for end in range(2)], [[], []])
        self.assertEqual([hall.free("right", end) for end in range(3)], [[], [], []])
        self.refused(NoPair, hall.hue_of, 0)
        self.refused(NoPair, hall.go, 0)
        self.refused(BadHue, hall.of_hue, 0)
        self.refused(BadHue, hall.chain, "left", 0, 0, 1)

    def test_halls_have_no_list_or_dict_in_common(self):
        kinds = [type(worth) for name, worth in vars(halls).items() if not name.startswith("__")]
        self.assertEqual([kind for kind in kinds if kind in (list, dict, set)], [])
        kinds = [type(worth) for name, worth in vars(Hall).items() if not name.startswith("__")]
        self.assertEqual([kind for kind in kinds if kind in (list, dict, set)], [])


class ComeTest(HallCase):

    def test_numbers_from_0_on(self):
        hall = Hall(3, 3)
        told = [hall.come(left, right) for left in range(3) for right in range(3)]
        self.assertEqual([row[0] for row in told], list(range(9)))

    def test_no_number_is_given_twice(self):
        hall = Hall(2, 2)
        self.assertEqual([hall.come(0, 0)[0], hall.come(0, 1)[0]], [0, 1])
        hall.go(1)
        self.assertEqual(hall.come(0, 1)[0], 2)
        hall.go(0)
        hall.go(2)
        self.assertEqual(hall.pairs(), [])
        self.assertEqual(hall.come(1, 1), (3, 0, None, []))
        hall.go(3)
        self.assertEqual(hall.come(1, 1), (4, 0, None, []))

    def test_several_pairs_of_the_same_two_ends(self):
        hall = Hall(1, 1)
        self.assertEqual([hall.come(0, 0) for _ in range(40)],
                         [(at, at, None, []) for at in range(40)])
        self.assertEqual(hall.count(), 40)
        self.assertEqual(hall.pairs(), [(at, 0, 0, at) for at in range(40)])

    def test_a_hue_free_at_both_ends(self):
        hall = Hall(2, 2)
        self.assertEqual(hall.come(0, 0), (0, 0, None, []))
        self.assertEqual(hall.come(1, 1), (1, 0, None, []))
        self.assertEqual(hall.come(0, 1), (2, 1, None, []))
        self.assertEqual(hall.come(1, 0), (3, 1, None, []))
        self.assertEqual(hall.pairs(), [(0, 0, 0, 0), (1, 1, 1, 0), (2, 0, 1, 1), (3, 1, 0, 1)])

    def test_the_kinds_of_what_is_told(self):
        told = filled(*FALLING).come(1, 1)
        self.assertIs(type(told), tuple)
        self.assertEqual([type(part) for part in told], [int, int, type(None), list])
        sizes, pairs = CHAIN_OF_ONE
        told = filled(sizes, pairs[:-1]).come(*pairs[-1])
        self.assertIs(type(told), tuple)
        self.assertEqual([type(part) for part in told], [int, int, int, list])

    def test_a_chain_from_the_left_is_turned(self):
        sizes, pairs = CHAIN_OF_ONE
        hall = filled(sizes, pairs[:-1])
        self.assertEqual(hall.pairs(), [(0, 0, 0, 0), (1, 1, 1, 0), (2, 1, 2, 1)])
        self.assertEqual(hall.come(*pairs[-1]), (3, 0, 1, [0]))
        self.assertEqual(hall.pairs(), [(0, 0, 0, 1), (1, 1, 1, 0), (2, 1, 2, 1), (3, 0, 2, 0)])

    def test_a_chain_from_the_right_is_turned(self):
        sizes, pairs = CHAIN_OF_ONE_MIRRORED
        hall = filled(sizes, pairs[:-1])
        self.assertEqual(hall.come(*pairs[-1]), (3, 0, 1, [0]))
        self.assertEqual(hall.pairs(), [(0, 0, 0, 1), (1, 1, 1, 0), (2, 2, 1, 1), (3, 2, 0, 0)])

    def test_the_shorter_of_two_chains_is_told_in_its_order(self):
        sizes, pairs = CHAIN_OF_TWO
        hall = filled(sizes, pairs[:-1])
        self.assertEqual(hall.chain("right", 2, 0, 1), [2, 1, 4])
        self.assertEqual(hall.come(*pairs[-1]), (5, 0, 1, [0, 3]))
        self.assertEqual(hall.pairs(), [(0, 0, 0, 1), (1, 1, 1, 0), (2, 1, 2, 1), (3, 2, 0, 0),
                                        (4, 3, 1, 1), (5, 0, 2, 0)])

    def test_bad_ends(self):
        sizes = (2, 3)
        hall = filled(sizes, [(0, 0), (1, 1)])
        for bad in NEVER_WHOLE:
            self.refused(BadEnd, hall.come, bad, 0)
            self.refused(BadEnd, hall.come, 0, bad)
            self.refused(BadEnd, hall.come, bad, bad)
        self.refused(BadEnd, hall.come, 2, 0)
        self.refused(BadEnd, hall.come, 0, 3)
        self.refused(BadEnd, hall.come, 3, 2)
        self.assertEqual(hall.come(1, 2)[0], 2)

    def test_the_forty_first_pair(self):
        hall = filled((8, 8), [(at % 8, at // 8) for at in range(40)])
        self.assertEqual(len(hall.pairs()), 40)
        for left, right in ((0, 0), (7, 7), (3, 2)):
            self.refused(TooMany, hall.come, left, right)

    def test_a_bad_end_is_told_ahead_of_too_many(self):
        hall = filled((1, 1), [(0, 0)] * 40)
        for bad in NEVER_WHOLE + (1,):
            self.refused(BadEnd, hall.come, bad, 0)
            self.refused(BadEnd, hall.come, 0, bad)
        self.refused(TooMany, hall.come, 0, 0)

    def test_one_that_comes_after_another_went(self):
        hall = filled((1, 1), [(0, 0)] * 40)
        self.refused(TooMany, hall.come, 0, 0)
        self.assertEqual(hall.go(39), [])
        self.assertEqual(hall.come(0, 0), (40, 39, None, []))
        self.refused(TooMany, hall.come, 0, 0)
        self.assertEqual(hall.go(0), [(40, 0, None, [])])
        self.assertEqual(hall.come(0, 0), (41, 39, None, []))

    def test_what_is_refused_takes_no_number(self):
        hall = Hall(1, 1)
        self.refused(BadEnd, hall.come, 1, 0)
        self.assertEqual(hall.come(0, 0)[0], 0)
        self.refused(BadEnd, hall.come, 0, None)
        self.refused(NoPair, hall.go, 5)
        self.assertEqual(hall.come(0, 0)[0], 1)


class GoTest(HallCase):

    def test_no_pair_of_what_never_came(self):
        hall = filled((2, 2), [(0, 0), (1, 0), (1, 1)])
        for bad in NEVER_WHOLE + (3, 4, 40):
            self.refused(NoPair, hall.go, bad)
        self.assertEqual(hall.come(0, 1)[0], 3)

    def test_no_pair_of_what_went(self):
        hall = filled((2, 2), [(0, 0), (1, 1), (0, 1)])
        for number in (1, 2, 0):
            hall.go(number)
            self.refused(NoPair, hall.go, number)

    def test_an_empty_list_where_the_count_stays(self):
        hall = filled((2, 2), [(0, 0), (0, 1), (1, 0), (1, 1)])
        before = hall.pairs()
        told = hall.go(2)
        self.assertEqual(told, [])
        self.assertIs(type(told), list)
        self.assertEqual(hall.pairs(), before[:2] + before[3:])

    def test_an_empty_list_where_no_pair_is_left_with_the_hue(self):
        hall = filled((1, 2), [(0, 0), (0, 1)])
        self.assertEqual(hall.go(1), [])
        self.assertEqual(hall.count(), 1)
        self.assertEqual(hall.go(0), [])
        self.assertEqual(hall.count(), 0)

    def test_a_pair_gets_a_hue_that_is_free_at_both_ends(self):
        hall = filled(*CHAIN_OF_ONE)
        self.assertEqual(hall.go(3), [])
        self.assertEqual(hall.go(2), [(0, 0, None, [])])
        self.assertEqual(hall.pairs(), [(0, 0, 0, 0), (1, 1, 1, 0)])

    def test_a_pair_gets_a_hue_by_a_chain(self):
        hall = filled(*FALLING)
        self.assertEqual(hall.of_hue(2), [5, 6])
        before = hall.pairs()
        self.assertEqual(hall.go(5), [(6, 0, 1, [0])])
        self.assertEqual(hall.pairs(), [(0, 0, 0, 1)] + before[1:5] + [(6, 0, 2, 0)])

    def test_several_pairs_rising_by_their_numbers(self):
        for goes in (3, 4):
            hall = filled(*FALLING)
            hue = hall.hue_of(goes)
            told = hall.go(goes)
            self.assertEqual(told, [(5, hue, None, []), (6, 0, 1, [0])])
            self.assertEqual([type(row) for row in told], [tuple, tuple])
            self.assertEqual(hall.hue_of(5), hue)

    def test_rising_also_where_pairs_were_placed_anew_before(self):
        hall = filled((8, 8), [(at % 8, (at + at // 8) % 8) for at in range(32)])
        for goes in range(0, 32, 3):
            told = [row[0] for row in hall.go(goes)]
            self.assertEqual(told, sorted(told))
            numbers = [row[0] for row in hall.pairs()]
            self.assertEqual(numbers, sorted(numbers))


class AskedTest(HallCase):

    def test_every_answer_behind_every_deed(self):
        for sizes, pairs in (CHAIN_OF_ONE, CHAIN_OF_ONE_MIRRORED, CHAIN_OF_TWO, FALLING):
            hall = Hall(*sizes)
            for left, right in pairs:
                hall.come(left, right)
                self.assertEqual(all_told(hall, sizes), plainly(hall.pairs(), sizes))
            for number in range(len(pairs)):
                hall.go(number)
                self.assertEqual(all_told(hall, sizes), plainly(hall.pairs(), sizes))

    def test_every_answer_of_every_small_hall(self):
        for many in range(5):
            for pairs in itertools.product(itertools.product(range(2), range(2)), repeat=many):
                hall = filled((2, 2), pairs)
                self.assertEqual(all_told(hall, (2, 2)), plainly(hall.pairs(), (2, 2)))

    def test_every_answer_by_hand(self):
        hall = filled(*CHAIN_OF_TWO)
        self.assertEqual(hall.count(), 2)
        self.assertEqual([hall.hue_of(number) for number in range(6)], [1, 0, 1, 0, 1, 0])
        self.assertEqual([hall.of_hue(hue) for hue in range(2)], [[1, 3, 5], [0, 2, 4]])
        self.assertEqual([hall.free("left", end) for end in range(4)], [[], [], [1], [0]])
        self.assertEqual([hall.free("right", end) for end in range(3)], [[], [], []])
        self.assertEqual(hall.fullest(), ([0, 1], [0, 1, 2]))
        self.assertEqual(hall.chain("left", 2, 1, 0), [3, 0, 5, 2, 1, 4])
        self.assertEqual(hall.chain("left", 3, 0, 1), [4, 1, 2, 5, 0, 3])

    def test_fullest_of_one_side_alone(self):
        self.assertEqual(filled((2, 3), [(1, 0), (1, 2)]).fullest(), ([1], []))
        self.assertEqual(filled((3, 2), [(0, 1), (2, 1)]).fullest(), ([], [1]))
        self.assertIs(type(filled((3, 2), [(0, 1)]).fullest()), tuple)

    def test_a_chain_may_be_empty(self):
        hall = filled((2, 2), [(0, 0), (0, 1)])
        self.assertEqual(hall.chain("left", 1, 0, 1), [])
        self.assertEqual(hall.chain("left", 1, 1, 0), [])

    def test_asking_turns_nothing(self):
        sizes = CHAIN_OF_TWO[0]
        hall = filled(*CHAIN_OF_TWO)
        first = copy.deepcopy(all_told(hall, sizes))
        self.assertEqual(all_told(hall, sizes), first)
        self.assertEqual(hall.come(2, 2)[0], 6)

    def test_hue_of_refuses(self):
        hall = filled((2, 2), [(0, 0), (1, 0), (1, 1)])
        for bad in NEVER_WHOLE + (3, 40):
            self.refused(NoPair, hall.hue_of, bad)
        hall.go(1)
        self.refused(NoPair, hall.hue_of, 1)
        self.assertEqual(hall.hue_of(2), 0)

    def test_of_hue_refuses(self):
        hall = filled((2, 2), [(0, 0), (1, 0), (1, 1)])
        for bad in NEVER_WHOLE + (2, 3, 40):
            self.refused(BadHue, hall.of_hue, bad)
        hall.go(1)
        self.refused(BadHue, hall.of_hue, 1)
        self.assertEqual(hall.of_hue(0), [0, 2])

    def test_free_refuses(self):
        hall = filled((2, 3), [(0, 0), (1, 0), (1, 1)])
        for bad in NEVER_SIDES:
            self.refused(BadSide, hall.free, bad, 0)
            self.refused(BadSide, hall.free, bad, 9)
            self.refused(BadSide, hall.free, bad, None)
        for side, over in (("left", 2), ("right", 3)):
            for bad in NEVER_WHOLE + (over, 8):
                self.refused(BadEnd, hall.free, side, bad)
        self.assertEqual(hall.free("right", 2), [0, 1])

    def test_chain_refuses(self):
        hall = filled((2, 3), [(0, 0), (1, 0), (1, 1)])
        for bad in NEVER_SIDES:
            self.refused(BadSide, hall.chain, bad, 0, 0, 1)
        for side, over in (("left", 2), ("right", 3)):
            for bad in NEVER_WHOLE + (over, 8):
                self.refused(BadEnd, hall.chain, side, bad, 0, 1)
        for bad in NEVER_WHOLE + (2, 40):
            self.refused(BadHue, hall.chain, "right", 2, bad, 0)
            self.refused(BadHue, hall.chain, "right", 2, 0, bad)
            self.refused(BadHue, hall.chain, "right", 2, bad, bad)
        for hue in (0, 1):
            self.refused(BadHue, hall.chain, "right", 2, hue, hue)
            self.refused(NotFree, hall.chain, "left", 1, hue, 1 - hue)
        self.assertEqual(hall.chain("left", 0, 1, 0), [0, 1, 2])
        self.refused(NotFree, hall.chain, "left", 0, 0, 1)

    def test_which_refusal_of_chain_comes_first(self):
        hall = filled((2, 2), [(0, 0), (0, 1)])
        for side, end, hues, kind in (
                ("top", 9, (9, 9), BadSide), ("top", 0, (0, 0), BadSide),
                ("left", 2, (9, 0), BadEnd), ("left", 2, (0, 0), BadEnd),
                ("right", None, (0, 1), BadEnd), ("left", 0, (9, 0), BadHue),
                ("left", 0, (0, 9), BadHue), ("left", 0, (0, 0), BadHue),
                ("left", 0, (0, 1), NotFree), ("left", 0, (1, 0), NotFree)):
            self.refused(kind, hall.chain, side, end, *hues)

    def test_with_one_hue_there_is_no_chain(self):
        hall = filled((2, 2), [(0, 0)])
        self.refused(BadHue, hall.chain, "left", 1, 0, 0)
        self.refused(BadHue, hall.chain, "left", 1, 0, 1)
        self.refused(BadHue, hall.chain, "left", 1, 1, 0)


class OwnTest(HallCase):

    def test_told_lists_may_be_changed(self):
        for sizes, pairs in (CHAIN_OF_ONE, CHAIN_OF_TWO, FALLING):
            hall, twin = Hall(*sizes), Hall(*sizes)
            for left, right in pairs:
                told = hall.come(left, right)
                self.assertEqual(told, twin.come(left, right))
                spoil(told)
                spoil(all_told(hall, sizes))
                self.assertEqual(all_told(hall, sizes), all_told(twin, sizes))
            for number in reversed(range(len(pairs))):
                told = hall.go(number)
                self.assertEqual(told, twin.go(number))
                spoil(told)
                spoil(all_told(hall, sizes))
                self.assertEqual(all_told(hall, sizes), all_told(twin, sizes))

    def test_what_was_told_earlier_stays(self):
        sizes, pairs = FALLING
        hall = Hall(*sizes)
        kept = []
        for left, right in pairs:
            kept.append((hall.come(left, right), all_told(hall, sizes)))
        copied = copy.deepcopy(kept)
        for number in range(len(pairs)):
            kept.append((hall.go(number), all_told(hall, sizes)))
            copied.append(copy.deepcopy(kept[-1]))
        hall.come(0, 0)
        self.assertEqual(kept, copied)

    def test_each_told_list_is_a_new_one(self):
        hall = filled(*CHAIN_OF_ONE)
        for call, given in ((hall.pairs, ()), (hall.of_hue, (0,)), (hall.free, ("left", 0)),
                            (hall.chain, ("right", 0, 0, 1))):
            self.assertIsNot(call(*given), call(*given))
        self.assertIsNot(hall.fullest()[0], hall.fullest()[0])
        self.assertIsNot(hall.fullest()[1], hall.fullest()[1])
        empty = Hall(1, 1).fullest()
        self.assertIsNot(empty[0], empty[1])
        self.assertIsNot(hall.come(0, 0)[3], hall.come(0, 0)[3])

    def test_two_halls_side_by_side(self):
        sizes, pairs = FALLING
        alone = filled(sizes, pairs)
        one, other = Hall(*sizes), Hall(3, 3)
        for at, (left, right) in enumerate(pairs):
            one.come(left, right)
            other.come(at % 3, at // 3)
        self.assertEqual(all_told(one, sizes), all_told(alone, sizes))
        before = all_told(other, (3, 3))
        self.assertEqual(one.go(3), alone.go(3))
        self.assertEqual(all_told(other, (3, 3)), before)
        self.assertEqual(one.come(0, 0)[0], 7)
        self.assertEqual(other.come(0, 0)[0], 7)


if __name__ == "__main__":
    unittest.main()

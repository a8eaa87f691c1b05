"""hued of pairhues.lists."""

import copy
import random
import unittest

from pairhues.errors import BadCount, BadEnd, PairError, TooMany
from pairhues.halls import Hall
from pairhues.lists import hued
from tests.second_way import NEVER_WHOLE


def by_calls(lefts, rights, pairs):
    """The hues that a new hall tells in the end."""
    hall = Hall(lefts, rights)
    numbers = [hall.come(left, right)[0] for left, right in pairs]
    return [hall.hue_of(number) for number in numbers]


class HuedTest(unittest.TestCase):

    def refused(self, kind, lefts, rights, pairs):
        before = list(pairs)
        with self.assertRaises(PairError) as caught:
            hued(lefts, rights, pairs)
        self.assertIs(type(caught.exception), kind)
        self.assertEqual(len(pairs), len(before))
        self.assertTrue(all(one is other for one, other in zip(pairs, before)))

    def test_it_is_defined_in_its_file(self):
        self.assertEqual(hued.__module__, "pairhues.lists")

    def test_no_pairs(self):
        self.assertEqual(hued(1, 8, []), [])

    def test_by_hand(self):
        self.assertEqual(hued(2, 2, [(0, 0), (1, 1), (0, 1), (1, 0)]), [0, 0, 1, 1])
        self.assertEqual(hued(1, 1, [(0, 0)] * 40), list(range(40)))

    def test_the_hues_are_those_in_the_end(self):
        # The pair that comes last turns the first one's hue.
        self.assertEqual(hued(2, 3, [(0, 0), (1, 1), (1, 2)]), [0, 0, 1])
        self.assertEqual(hued(2, 3, [(0, 0), (1, 1), (1, 2), (0, 2)]), [1, 0, 1, 0])

    def test_as_a_new_hall_tells(self):
        chance = random.Random("hued")
        for _ in range(200):
            lefts, rights = chance.randint(1, 8), chance.randint(1, 8)
            pairs = [(chance.randrange(lefts), chance.randrange(rights))
                     for _ in range(chance.randint(0, 40))]
            before = copy.deepcopy(pairs)
            told = hued(lefts, rights, pairs)
            self.assertIs(type(told), list)
            self.assertEqual(told, by_calls(lefts, rights, pairs))
            self.assertEqual(pairs, before)
            kept = list(told)
            told[:] = ["spoilt"]
            self.assertEqual(hued(lefts, rights, pairs), kept)

    def test_bad_counts(self):
        for bad in NEVER_WHOLE + (0, 9):
            self.refused(BadCount, bad, 3, [])
            self.refused(BadCount, 3, bad, [])
            self.refused(BadCount, bad, 3, [(9, 9)])
            self.refused(BadCount, 3, bad, [(0, 0)] * 41)
        for good in (1, 8):
            self.assertEqual(hued(good, good, [(good - 1, good - 1)]), [0])

    def test_bad_ends(self):
        for bad in NEVER_WHOLE:
            self.refused(BadEnd, 2, 3, [(0, 0), (bad, 0), (1, 1)])
            self.refused(BadEnd, 2, 3, [(0, 0), (0, bad), (1, 1)])
        self.refused(BadEnd, 2, 3, [(2, 0)])
        self.refused(BadEnd, 2, 3, [(0, 3)])

    def test_too_many(self):
        self.refused(TooMany, 2, 2, [(0, 0)] * 41)
        self.refused(TooMany, 2, 2, [(at % 2, 0) for at in range(60)])

    def test_whichever_comes_first(self):
        self.refused(BadEnd, 2, 2, [(0, 0)] * 39 + [(2, 0)] + [(0, 0)] * 5)
        self.refused(BadEnd, 2, 2, [(0, 0)] * 40 + [(0, 2)])
        self.refused(TooMany, 2, 2, [(0, 0)] * 41 + [(0, 2)])


if __name__ == "__main__":
    unittest.main()

"""Points [3] and [6] to [9] of drawn rows of deeds, checked by the second way."""

import itertools
import random
import unittest

from pairhues.errors import BadEnd, NoPair, TooMany
from pairhues.halls import Hall
from pairhues.lists import hued
from pairhues.notes import line_of, play
from pairhues.plain import count_of, is_good
from tests.second_way import Model, meeting


class Watched:
    """A hall beside the model that checks all it tells of deeds."""

    def __init__(self, lefts, rights):
        self.sizes = (lefts, rights)
        self.hall = Hall(lefts, rights)
        self.model = Model()
        self.deeds = []
        self.told = []

    def check(self):
        pairs = self.hall.pairs()
        assert pairs == self.model.pairs, (pairs, self.model.pairs)
        rows = [pair[1:] for pair in pairs]
        assert is_good(rows) and count_of(rows) == self.hall.count(), rows

    def come(self, left, right):
        told = self.hall.come(left, right)
        self.model.came(left, right, told)
        self.check()
        self.deeds.append(("come", left, right))
        self.told.append([told])

    def go(self, number):
        told = self.hall.go(number)
        self.model.went(number, told)
        self.check()
        self.deeds.append(("go", number))
        self.told.append(told)

    def refused(self, kind, call, *given):
        try:
            call(*given)
        except kind:
            return self.check()
        raise AssertionError((kind, given))

    def draw(self, chance, comes, goes):
        """One drawn deed, or one that is refused; so many comes for so many goes."""
        numbers = [pair[0] for pair in self.model.pairs]
        lefts, rights = self.sizes
        kind = chance.randrange(comes + goes + 1)
        if kind == 0:
            self.refused(BadEnd, self.hall.come, chance.randrange(lefts), rights)
            self.refused(NoPair, self.hall.go, self.model.next)
        elif kind > comes and numbers:
            self.go(chance.choice(numbers))
        elif len(numbers) < 40:
            self.come(chance.randrange(lefts), chance.randrange(rights))
        else:
            self.refused(TooMany, self.hall.come, 0, 0)


    def draw_thin(self, chance):
        """One drawn deed that leaves two pairs at the most at each end."""
        numbers = [pair[0] for pair in self.model.pairs]
        open_ends = [[end for end in range(self.sizes[side])
                      if len(meeting(self.model.pairs, side, end)) < 2] for side in (0, 1)]
        if all(open_ends) and (not numbers or chance.random() < 0.8):
            self.come(chance.choice(open_ends[0]), chance.choice(open_ends[1]))
        else:
            self.go(chance.choice(numbers))


def text_of(row):
    """The text of a told tuple, put together by hand."""
    number, hue, other, chain = row
    text = f"{number} {hue}"
    if other is not None:
        text += f" {other}" + "".join(f" {link}" for link in chain)
    return text


class DrawnTest(unittest.TestCase):

    def told_alike(self, watched):
        """New halls tell the same, by calls and by play."""
        lines = [line_of(deed) for deed in watched.deeds]
        texts = [[text_of(row) for row in rows] for rows in watched.told]
        self.assertEqual(play(*watched.sizes, lines), texts)
        again = Hall(*watched.sizes)
        for deed, rows in zip(watched.deeds, watched.told):
            told = again.go(deed[1]) if deed[0] == "go" else [again.come(*deed[1:])]
            self.assertEqual(told, rows)
        self.assertEqual(again.pairs(), watched.hall.pairs())

    def drawn(self, rows, deeds, sizes, comes, goes, seed):
        """Drawn rows of deeds; what kinds of tuples they came by, in all."""
        seen = {}
        for row in range(rows):
            chance = random.Random(f"{seed} {row}")
            watched = Watched(chance.choice(sizes), chance.choice(sizes))
            for _ in range(deeds):
                watched.draw(chance, comes, goes)
            self.told_alike(watched)
            for kind, many in watched.model.seen.items():
                seen[kind] = seen.get(kind, 0) + many
        return seen

    def test_halls_of_all_sizes(self):
        seen = self.drawn(150, 60, range(1, 9), 3, 2, "all")
        for kind in ("free", "turned", "spared", "fell", "several", "fell turned"):
            self.assertGreater(seen[kind], 10, kind)

    def test_great_halls_that_are_full(self):
        seen = self.drawn(20, 120, (6, 7, 8), 3, 1, "full")
        for kind in ("turned", "spared", "fell turned"):
            self.assertGreater(seen[kind], 10, kind)

    def test_long_chains(self):
        # Chains are long where few hues are free: each end has two pairs at most.
        seen = {}
        for row in range(400):
            chance = random.Random(f"long {row}")
            watched = Watched(8, 8)
            for _ in range(40):
                watched.draw_thin(chance)
            self.told_alike(watched)
            for kind, many in watched.model.seen.items():
                seen[kind] = seen.get(kind, 0) + many
        for kind in ("turned", "long", "spared"):
            self.assertGreater(seen[kind], 10, kind)

    def test_small_halls(self):
        seen = self.drawn(150, 50, (1, 2, 3), 1, 1, "small")
        self.assertGreater(seen["fell turned"], 10)

    def test_a_wide_and_a_narrow_side(self):
        self.drawn(60, 60, (1, 8), 3, 2, "narrow")

    def test_halls_that_fill_and_empty(self):
        for row in range(20):
            chance = random.Random(f"empty {row}")
            watched = Watched(chance.randint(3, 8), chance.randint(3, 8))
            for _ in range(40):
                watched.come(chance.randrange(watched.sizes[0]),
                             chance.randrange(watched.sizes[1]))
            numbers = list(range(40))
            chance.shuffle(numbers)
            for number in numbers:
                watched.go(number)
            self.assertEqual((watched.hall.pairs(), watched.hall.count()), ([], 0))
            self.told_alike(watched)

    def test_every_small_list_that_comes_and_goes(self):
        ends = list(itertools.product(range(2), range(2)))
        for pairs in itertools.product(ends, repeat=4):
            for goes in itertools.permutations(range(4), 2):
                watched = Watched(2, 2)
                for left, right in pairs:
                    watched.come(left, right)
                for number in goes:
                    watched.go(number)

    def test_every_list_of_five_pairs(self):
        for pairs in itertools.product(itertools.product(range(2), range(3)), repeat=5):
            if pairs[0] == (0, 0):
                watched = Watched(2, 3)
                for left, right in pairs:
                    watched.come(left, right)
                self.assertEqual(hued(2, 3, list(pairs)), [row[3] for row in watched.model.pairs])


if __name__ == "__main__":
    unittest.main()

"""What DOC.md promises, worked out a second time and straight from its words.

Pairs are tuples (number, left, right, hue), as Hall.pairs tells them. Sides
are 0 and 1 for left and right, so pair[1 + side] is the end on a side.
Nothing of the package is used here.
"""

SIDES = ("left", "right")


class Equal:
    """Equal to everything, greater and less than nothing, and no key of a dict."""

    __hash__ = None

    def __eq__(self, other):
        return True


# Of every kind, none of them a whole number that is good anywhere.
NEVER_WHOLE = (None, True, False, 0.0, 1.0, 2.0, float("nan"), float("inf"), 1j, "", "0", "1",
               "left", b"1", [], [0], (), (0,), {}, {0: 0}, set(), frozenset(), range(2), object(),
               int, Equal(), -1, -(10 ** 20), 10 ** 20, 10 ** 5000)
# Of every kind, none of them a side.
NEVER_SIDES = (None, True, False, 0, 1, -1, 0.0, 10 ** 20, "", "Left", "LEFT", " left", "left ",
               "lef", "leftright", "rights", "top", b"left", [], ["left"], ("left",), {},
               {"left": 0}, object(), str, Equal())


def meeting(pairs, side, end):
    """The pairs that meet at an end."""
    return [pair for pair in pairs if pair[1 + side] == end]


def count_of(pairs):
    """How full the fullest ends are."""
    return max([len(meeting(pairs, side, pair[1 + side])) for pair in pairs for side in (0, 1)],
               default=0)


def free_at(pairs, side, end, many):
    """The hues below a number that no pair at an end has, rising."""
    had = {pair[3] for pair in meeting(pairs, side, end)}
    return sorted(set(range(many)) - had)


def fullest(pairs, side, many_ends):
    """The fullest ends of a side, rising."""
    count = count_of(pairs)
    return [end for end in range(many_ends) if count and len(meeting(pairs, side, end)) == count]


def chain_of(pairs, side, end, one, other):
    """The chain of [5], and a failure where it is no chain or a pair comes twice."""
    left_over = list(pairs)
    numbers = []
    while True:
        wanted = (other, one)[len(numbers) % 2]
        here = [pair for pair in left_over if pair[1 + side] == end and pair[3] == wanted]
        if not here:
            return numbers
        assert len(here) == 1, ("two of one hue meet", here)
        left_over.remove(here[0])
        numbers.append(here[0][0])
        side = 1 - side
        end = here[0][1 + side]


def ways_of(pairs, left, right, many):
    """All that [6] lets a pair without a hue be told: (hue, other, chain), any length."""
    at_left = free_at(pairs, 0, left, many)
    at_right = free_at(pairs, 1, right, many)
    both = [hue for hue in at_left if hue in at_right]
    if both:
        return [(hue, None, []) for hue in both]
    ways = []
    for hue in at_left:
        for there in at_right:
            ways.append((hue, there, chain_of(pairs, 1, right, there, hue)))
    for hue in at_right:
        for there in at_left:
            ways.append((hue, there, chain_of(pairs, 0, left, there, hue)))
    return ways


def turned(pairs, numbers, one, other):
    """The pairs with the two hues of some of them exchanged."""
    change = {one: other, other: one}
    return [pair[:3] + (change[pair[3]],) if pair[0] in numbers else pair for pair in pairs]


class Model:
    """A hall's pairs as they are by what is told, each tuple checked by [6] to [9].

    Failures are AssertionErrors. `seen` counts what kinds of tuples came by,
    so that a test of drawn deeds can ask whether it saw enough.
    """

    def __init__(self):
        self.pairs = []
        self.next = 0
        self.seen = {"free": 0, "turned": 0, "long": 0, "spared": 0, "fell": 0, "several": 0,
                     "fell turned": 0}

    def settle(self, number, left, right, many, told):
        """Check the tuple of a pair without a hue, and put it among the others."""
        assert type(told) is tuple and len(told) == 4, told
        assert told[0] == number, (told, number)
        assert type(told[3]) is list, told
        ways = ways_of(self.pairs, left, right, many)
        assert told[1:] in ways, (told, ways)
        shortest = min(len(chain) for _, _, chain in ways)
        assert len(told[3]) == shortest, (told, ways)
        if told[2] is None:
            self.seen["free"] += 1
        else:
            self.seen["turned"] += 1
            self.seen["long"] += shortest >= 3
            self.seen["spared"] += max(len(chain) for _, _, chain in ways) > shortest
            self.pairs = turned(self.pairs, told[3], told[1], told[2])
        self.pairs = sorted(self.pairs + [(number, left, right, told[1])])

    def came(self, left, right, told):
        """Check what come told."""
        many = count_of(self.pairs + [(self.next, left, right, None)])
        self.settle(self.next, left, right, many, told)
        self.next += 1
        self.check()

    def went(self, number, told):
        """Check what go told."""
        assert type(told) is list, told
        before = count_of(self.pairs)
        self.pairs = [pair for pair in self.pairs if pair[0] != number]
        many = count_of(self.pairs)
        if many == before:
            assert told == [], told
            return self.check()
        bare = [pair for pair in self.pairs if pair[3] == many]
        assert [row[0] for row in told] == [pair[0] for pair in bare], (told, bare)
        self.seen["fell"] += 1
        self.seen["several"] += len(told) > 1
        for (behind, left, right, _), row in zip(bare, told):
            self.pairs = [pair for pair in self.pairs if pair[0] != behind]
            self.settle(behind, left, right, many, row)
            self.seen["fell turned"] += row[2] is not None
        self.check()

    def check(self):
        """Check [3] and [9] of the pairs as they are."""
        count = count_of(self.pairs)
        assert {pair[3] for pair in self.pairs} == set(range(count)), self.pairs
        for side in (0, 1):
            places = [(pair[1 + side], pair[3]) for pair in self.pairs]
            assert len(set(places)) == len(places), self.pairs
            for end in {pair[1 + side] for pair in self.pairs}:
                here = meeting(self.pairs, side, end)
                if len(here) == count:
                    assert {pair[3] for pair in here} == set(range(count)), self.pairs

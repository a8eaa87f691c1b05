"""The hall: ends on two sides, and the pairs that come and go between them."""

from pairhues.chains import chain_at, free_at, place, table_of
from pairhues.errors import BadCount, BadEnd, BadHue, BadSide, NoPair, NotFree, TooMany
from pairhues.plain import HUE, LEFT, RIGHT, count_of

MOST_ENDS = 8
MOST_PAIRS = 40


class Hall:
    """So many ends on the left and on the right, and the pairs between them."""

    def __init__(self, lefts, rights):
        if not (_is_within(lefts, 1, MOST_ENDS) and _is_within(rights, 1, MOST_ENDS)):
            raise BadCount("each side has 1 to 8 ends")
        self._ends = (lefts, rights)
        self._rows = {}
        self._next = 0

    def come(self, left, right):
        """Let a pair come; tell its number, its hue, and the chain turned for it.

        A tuple (number, hue, other hue, chain), with None and an empty list
        where no chain was turned.
        """
        self._check_end(LEFT, left)
        self._check_end(RIGHT, right)
        if len(self._rows) >= MOST_PAIRS:
            raise TooMany("there are 40 pairs already")
        many = count_of(list(self._rows.values()) + [(left, right)])
        number = self._next
        # Not the number of pairs there are: no number is given twice.
        self._next += 1
        return place(self._rows, number, left, right, many)

    def go(self, number):
        """Let a pair go; tell a tuple as come does for each that got another hue."""
        self._check_number(number)
        before = self.count()
        del self._rows[number]
        many = self.count()
        if many == before:
            return []
        # The hues are those below the count: the one that is none any more
        # is the count itself.
        told = []
        for left_over in self._numbers_of(many):
            told.append(self._place_anew(left_over, many))
        return told

    def count(self):
        """Tell how full the fullest ends are."""
        return count_of(list(self._rows.values()))

    def pairs(self):
        """Tell all pairs as tuples (number, left, right, hue), rising."""
        return [(number, *self._rows[number]) for number in sorted(self._rows)]

    def hue_of(self, number):
        """Tell the hue of a pair."""
        self._check_number(number)
        return self._rows[number][HUE]

    def of_hue(self, hue):
        """Tell the numbers of all pairs of a hue, rising."""
        self._check_hue(hue)
        return self._numbers_of(hue)

    def free(self, side, end):
        """Tell the hues that are free at an end, rising."""
        at = _side_of(side)
        self._check_end(at, end)
        return free_at(table_of(self._rows), at, end, self.count())

    def fullest(self):
        """Tell the fullest ends on the left and those on the right, rising."""
        many = self.count()
        if many == 0:
            return [], []
        return self._as_full(LEFT, many), self._as_full(RIGHT, many)

    def chain(self, side, end, one, other):
        """Tell the chain of two hues from an end where the one is free."""
        at = _side_of(side)
        self._check_end(at, end)
        self._check_hue(one)
        self._check_hue(other)
        if one == other:
            raise BadHue("a chain is of two hues")
        table = table_of(self._rows)
        if (at, end, one) in table:
            raise NotFree("a pair has this hue at the end")
        return chain_at(table, at, end, one, other)

    def _check_end(self, side, end):
        """Refuse what is no end of a side."""
        if not _is_within(end, 0, self._ends[side] - 1):
            raise BadEnd("no end of this side")

    def _check_number(self, number):
        """Refuse what is no number of a pair that is there."""
        # The kind is looked at ahead: 1.0 would be found, a list would fail.
        if not _is_whole(number) or number not in self._rows:
            raise NoPair("no pair has this number")

    def _check_hue(self, hue):
        """Refuse what is none of the hues."""
        if not _is_within(hue, 0, self.count() - 1):
            raise BadHue("none of the hues")

    def _numbers_of(self, hue):
        """Tell the numbers of the pairs that have a hue, rising."""
        return [number for number in sorted(self._rows) if self._rows[number][HUE] == hue]

    def _place_anew(self, number, many):
        """Give a pair that is there another hue, as if it had none yet."""
        left, right, _ = self._rows.pop(number)
        return place(self._rows, number, left, right, many)

    def _as_full(self, side, many):
        """Tell the ends of a side at which so many pairs meet, rising."""
        met = [row[side] for row in self._rows.values()]
        return [end for end in range(self._ends[side]) if met.count(end) == many]


def _is_whole(worth):
    """Tell whether something is a whole number: True and False are none."""
    return type(worth) == int


def _is_within(worth, low, high):
    """Tell whether something is a whole number from low to high."""
    return _is_whole(worth) and low <= worth <= high


def _side_of(word):
    """Tell the place of a side by its name, or refuse what is no side."""
    if type(word) != str or word not in ("left", "right"):
        raise BadSide("no side")
    return LEFT if word == "left" else RIGHT

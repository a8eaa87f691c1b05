"""Hues for a whole list of pairs at once."""

from pairhues.halls import Hall


def hued(lefts, rights, pairs):
    """Tell the hues that the pairs (left, right) of a list have in the end.

    They are those of a new hall to which the pairs come one by one.
    """
    hall = Hall(lefts, rights)
    for left, right in pairs:
        hall.come(left, right)
    return [hue for number, left, right, hue in hall.pairs()]

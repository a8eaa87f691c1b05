"""Plain questions about lists of pairs, asked without a hall."""

# The sides, and the hue, as places in a row (left, right, hue).
LEFT = 0
RIGHT = 1
HUE = 2


def count_of(rows):
    """Tell how many of the rows (left, right, ..) meet at the fullest ends."""
    return max(_most_at(rows, LEFT), _most_at(rows, RIGHT))


def is_good(rows):
    """Tell whether the hues of the rows (left, right, hue) may stand so.

    They may where no two of one hue meet at an end and all are less than
    the count.
    """
    count = count_of(rows)
    if not all(row[HUE] < count for row in rows):
        return False
    return _hues_differ(rows, LEFT) and _hues_differ(rows, RIGHT)


def _most_at(rows, side):
    """Tell how full the fullest end of one side is."""
    # Ends may be however great, so they are counted by a dict, not by places.
    met = {}
    for row in rows:
        end = row[side]
        met[end] = met.get(end, 0) + 1
    return max(met.values(), default=0)


def _hues_differ(rows, side):
    """Tell whether no two rows of one hue meet at an end of one side."""
    return len({(row[side], row[HUE]) for row in rows}) == len(rows)

"""Free hues and chains of rows, and how a pair gets its hue.

Rows are a dict of tuples (left, right, hue) by the numbers of the pairs. Each
of the pairs has a hue; one that has none yet is kept out of the rows.
"""

from pairhues.plain import LEFT, RIGHT


def table_of(rows):
    """Tell by (side, end, hue) which pair has the hue there, and its far end."""
    table = {}
    for number, (left, right, hue) in rows.items():
        table[(LEFT, left, hue)] = (number, right)
        table[(RIGHT, right, hue)] = (number, left)
    return table


def free_at(table, side, end, many):
    """Tell which of so many hues are free at an end, rising."""
    return [hue for hue in range(many) if (side, end, hue) not in table]


def chain_at(table, side, end, one, other):
    """Tell the chain of two hues from an end where the one is free."""
    chain = []
    hue = other
    # As the one is free at the first end, the chain cannot come back to it.
    while (side, end, hue) in table:
        number, far = table[(side, end, hue)]
        chain.append(number)
        side, end = _far_side(side), far
        hue = one if hue == other else other
    return chain


def place(rows, number, left, right, many):
    """Give a pair that has no hue yet one of so many, and put it into the rows.

    Tell (number, hue, other hue, chain), the last two of the chain that was
    turned for it: None and an empty list where none was.
    """
    table = table_of(rows)
    at_left = free_at(table, LEFT, left, many)
    at_right = free_at(table, RIGHT, right, many)
    at_both = [hue for hue in at_left if hue in at_right]
    if at_both:
        hue, other, chain = at_both[0], None, []
    else:
        ways = _ways(table, left, right, at_left, at_right)
        hue, other, chain = min(ways, key=lambda way: len(way[2]))
        _turn(rows, chain, hue, other)
    rows[number] = (left, right, hue)
    return number, hue, other, chain


def _far_side(side):
    """Tell the side that is not this one."""
    return RIGHT if side == LEFT else LEFT


def _ways(table, left, right, at_left, at_right):
    """Tell each (hue, other hue, chain) by which a pair may get its hue.

    No hue is free at both ends: what is free at one of them is had at the
    far one, and it is from there that the chain goes.
    """
    ways = []
    for left_hue in at_left:
        for right_hue in at_right:
            right_chain = chain_at(table, RIGHT, right, right_hue, left_hue)
            ways.append((left_hue, right_hue, right_chain))
            left_chain = chain_at(table, LEFT, left, left_hue, right_hue)
            ways.append((right_hue, left_hue, left_chain))
    return ways


def _turn(rows, chain, one, other):
    """Exchange the two hues of a chain in the rows."""
    for number in chain:
        left, right, had = rows[number]
        rows[number] = (left, right, other if had == one else one)

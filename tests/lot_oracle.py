"""What the document says of lots, families, choices, trees and maps, without haste, as a second opinion."""

import itertools


def greatest(lot, content):
    return max(content[lane] + number for lane, number in lot)


def least(lot, content):
    return min(content[lane] + number for lane, number in lot)


def value(lots, content):
    return min(greatest(lot, content) for lot in lots)


def co_value(lots, content):
    return max(least(lot, content) for lot in lots)


def is_under(one, other):
    had = dict(other)
    return all(lane in had and had[lane] >= number for lane, number in one)


def is_over(one, other):
    had = dict(other)
    return all(lane in had and had[lane] <= number for lane, number in one)


def family(lots):
    """Those of the lots under which no other one is, equal ones once."""
    return sorted({lot for lot in lots if not any(is_under(one, lot) for one in lots if one != lot)})


def co_family(lots):
    return sorted({lot for lot in lots if not any(is_over(one, lot) for one in lots if one != lot)})


def joined(lots, pick):
    """The lot with the lanes of all lots, each with the number that is picked of theirs."""
    numbers = {}
    for lane, number in itertools.chain(*lots):
        numbers.setdefault(lane, []).append(number)
    return tuple((lane, pick(numbers[lane])) for lane in sorted(numbers))


def other_side(lots):
    """The co-family of the co-lots of all choices."""
    return co_family([joined([[part] for part in choice], min) for choice in itertools.product(*lots)])


def other_side_of_co(lots):
    return family([joined([[part] for part in choice], max) for choice in itertools.product(*lots)])


def hold(co_lot, lot):
    """The lanes of a lot at which a co-lot holds."""
    had = dict(co_lot)
    return [lane for lane, number in lot if lane in had and number >= had[lane]]


def has_gone(way, co_lot):
    """Whether the co-lot fits behind a way, a list of (lane, number) pairs."""
    return all(any(lane == gone and number >= passed for gone, passed in way) for lane, number in co_lot)


def nodes(lots, co_lots, way=()):
    """How many nodes the tree has that asks the lots in sequence, and ends where some co-lot fits."""
    if not lots or any(has_gone(way, co_lot) for co_lot in co_lots):
        return 1
    return 1 + sum(nodes(lots[1:], co_lots, (*way, part)) for part in lots[0])


def nodes_told(tree):
    return 1 if tree[0] == "end" else 1 + sum(nodes_told(branch) for branch in tree[2].values())


def raised(lots, more):
    return [tuple((lane, number + more) for lane, number in lot) for lot in lots]


def on_the_way(lots, tables):
    """The families on the way of a family that is fed with these lists of lots, the last one that in the end."""
    found, done = [], []
    for lot in lots:
        now = None
        for lane, number in lot:
            told = raised(tables[lane], number)
            now = told if now is None else family([joined(pair, max) for pair in itertools.product(now, told)])
            found.append(now)
        done = family(done + now)
        found.append(done)
    return found

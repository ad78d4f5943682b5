"""What the document says of spans, ways, rings, gaps and their papers, without haste, as a second opinion."""

import itertools

from tests import lot_oracle


def fits(differences, content):
    return all(content[i] - content[j] <= number for i, j, number in differences)


def least_told(differences):
    """For each pair the least number that is told of it."""
    found = {}
    for i, j, number in differences:
        found[i, j] = min(number, found.get((i, j), number))
    return found


def ways(differences, one, other):
    """The sums of all ways from one lane to the other that come to no lane twice, but perhaps back to the first one."""
    told = least_told(differences)
    waiting, found = [((one,), 0)], [0] if one == other else []
    while waiting:
        way, total = waiting.pop()
        for (i, j), number in told.items():
            if i != way[-1]:
                continue
            if j == other:
                found.append(total + number)
            if j not in way:
                waiting.append((way + (j,), total + number))
    return found


def has_ring(differences, lanes):
    return any(total < 0 for lane in range(lanes) for total in ways(differences, lane, lane))


def closed(differences, lanes):
    """The least sums of ways between unlike lanes, where nothing forbids it."""
    pairs = itertools.permutations(range(lanes), 2)
    return {pair: min(ways(differences, *pair)) for pair in pairs if ways(differences, *pair)}


def sum_of(differences, way):
    told = least_told(differences)
    numbers = [told.get(pair) for pair in zip(way, way[1:])]
    return None if None in numbers else sum(numbers)


def summit(differences, row):
    lanes = range(len(row))
    found = []
    for lane in lanes:
        sums = [row[j] + total for j in lanes if row[j] is not None for total in ways(differences, lane, j)]
        found.append(min(sums) if sums else None)
    return found


def value_at(lots, row):
    values = [max(row[lane] + number for lane, number in lot) for lot in lots
              if all(row[lane] is not None for lane, _ in lot)]
    return min(values) if values else None


def corner(lot, lanes):
    return [-dict(lot)[lane] if lane in dict(lot) else None for lane in range(lanes)]


def gap(differences, lanes, lots, second):
    values = [value_at(lots, summit(differences, corner(lot, lanes))) for lot in second]
    return None if None in values else max(values)


def boxed(lanes, most):
    """All contents with numbers from 0 to most, one of which is 0: all others are as they are, raised."""
    return [content for content in itertools.product(range(most + 1), repeat=lanes) if 0 in content]


def is_at_most(differences, lots, second, number, paper):
    """Whether a paper whose form is right, as far as tuples, lists and kinds go, shows that the gap is at most it."""
    if len(paper) != len(second):
        return False
    for wanted, (lot, told_ways) in zip(second, paper):
        if lot not in lots or len(told_ways) != len(lot):
            return False
        for (lane, more), way in zip(lot, told_ways):
            total = sum_of(differences, way) if way else None
            if total is None or way[0] != lane or way[-1] not in dict(wanted):
                return False
            if more + total > number + dict(wanted)[way[-1]]:
                return False
    return True


def is_endless(differences, lots, second, lot, lanes):
    if lot not in second or len(set(lanes)) != len(lanes) or set(lanes) & set(dict(lot)):
        return False
    if any(i in lanes and j not in lanes for i, j, _ in differences):
        return False
    return all(set(lanes) & set(dict(own)) for own in lots)


def largest(differences, lots, second, contents):
    """The greatest number by which the first family is above the second one at those of the contents that fit."""
    return max([lot_oracle.value(lots, content) - lot_oracle.value(second, content) for content in contents
                if fits(differences, content)], default=None)

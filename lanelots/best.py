"""The paces of a map, by a plan and an answer that are best: what all files about paces are worked out from."""

from math import gcd

from lanelots.errors import TooMany
from lanelots.lots import numbers_in, raised_lots

MOST_PACE_LANES = 6
MOST_SPREAD = 60

# Each round counts a millionth less than the one ahead of it. So each plan has one worth at each lane, better plans can
# be taken as long as there are some, and that comes to an end. A worth, of numbers from 0 to 60 on six lanes, is off
# the mean of the ring that is come to by less than 2 * 6 * 60 millionths, while unlike paces are at least 1 / 30 apart:
# what is best so is best for ever.
_PARTS = 1000000
_LESS = 999999


def check_pace_limits(chart):
    """TooMany if the map has too many lanes, or if its numbers are too far apart."""
    check_pace_lanes(chart)
    numbers = all_numbers(chart)
    if max(numbers) - min(numbers) > MOST_SPREAD:
        raise TooMany("spread", MOST_SPREAD)


def check_pace_lanes(chart):
    """TooMany if the map has too many lanes."""
    if chart.lanes > MOST_PACE_LANES:
        raise TooMany("lanes", MOST_PACE_LANES)


def all_numbers(chart):
    """The numbers of all lots of the map."""
    return [number for family in chart.families() for number in numbers_in(family.lots())]


def fraction(number, parts):
    """The fraction as a tuple in lowest terms."""
    common = gcd(number, parts)
    return (number // common, parts // common)


def is_less(rate, other):
    """Whether the one fraction is less than the other one."""
    return rate[0] * other[1] < other[0] * rate[1]


def paces_of(chart):
    """The pace of each lane, of a map within the limits."""
    paces, _, _, _ = solved(chart)
    return paces


def solved(chart):
    """The paces, a best plan, a best answer, and about how far, in sixtieths, lanes are ahead of others of their pace.

    The map is within the limits.
    """
    least = min(all_numbers(chart))
    tables = [raised_lots(family.lots(), -least) for family in chart.families()]
    whole = _whole()
    plan, worths = _best_plan(tables, whole)
    answer = [[_greatest_part(lot, worths, whole)[0] for lot in lots] for lots in tables]
    means = _means([_greatest_part(lot, worths, whole) for lot in plan])
    ahead = [_ahead(worth, mean, whole) for worth, mean in zip(worths, means)]
    return ([(p + least * q, q) for p, q in means], raised_lots(plan, least), answer, ahead)


def _whole():
    """What worths are parts of, so that all of them are whole numbers."""
    found = _PARTS ** 6
    for many in range(1, 7):
        found = found * (_PARTS ** many - _LESS ** many)
    return found


def _best_plan(tables, whole):
    """A lot for each lane, and what the lanes are worth by them: no other lots make one of them worth less."""
    worths = _worths_of_plan([lots[0] for lots in tables], whole)
    while True:
        plan = [_least_lot(lots, worths, whole) for lots in tables]
        better = _worths_of_plan(plan, whole)
        if better == worths:
            return (plan, worths)
        worths = better


def _worths_of_plan(plan, whole):
    """What the lanes are worth by the plan, if of each of its lots the greatest lane is taken."""
    worths = _worths([lot[0] for lot in plan], whole)
    while True:
        better = _worths([_greatest_part(lot, worths, whole) for lot in plan], whole)
        if better == worths:
            return worths
        worths = better


def _least_lot(lots, worths, whole):
    """The first of the lots with the least worth."""
    told = [_worth_of(_greatest_part(lot, worths, whole), worths, whole) for lot in lots]
    return lots[told.index(min(told))]


def _greatest_part(lot, worths, whole):
    """The first lane and number of the lot with the greatest worth."""
    told = [_worth_of(part, worths, whole) for part in lot]
    return lot[told.index(max(told))]


def _worth_of(part, worths, whole):
    """What it is worth to go on to a lane by a number, in parts of _PARTS."""
    lane, number = part
    return number * whole + _LESS * worths[lane]


def _worths(parts, whole):
    """What each lane is worth, if each goes on to one lane by one number."""
    found = []
    for lane in range(len(parts)):
        trail, first = _trail(parts, lane)
        worth = _worth_of_ring([parts[at][1] for at in trail[first:]], whole)
        for at in trail[:first][::-1]:
            worth = (parts[at][1] * whole + _LESS * worth) // _PARTS
        found.append(worth)
    return found


def _trail(parts, lane):
    """The lanes that come from this one on, each once, and the place of the one that comes again."""
    found = [lane]
    while parts[found[-1]][0] not in found:
        found.append(parts[found[-1]][0])
    return (found, found.index(parts[found[-1]][0]))


def _worth_of_ring(numbers, whole):
    """What a lane is worth from which these numbers come again and again."""
    total, many, counting = 0, 0, 1
    for number in numbers:
        total = total * _PARTS + number * counting
        many = many * _PARTS + counting
        counting = counting * _LESS
    return whole // many * total


def _means(parts):
    """For each lane the mean of the ring to which it goes on."""
    found = []
    for lane in range(len(parts)):
        trail, first = _trail(parts, lane)
        found.append(fraction(sum([parts[at][1] for at in trail[first:]]), len(trail) - first))
    return found


def _ahead(worth, mean, whole):
    """About sixty times what a lane has more than its mean so often as rounds count together."""
    p, q = mean
    return 60 * _PARTS * (worth * q - p * whole) // (q * whole)

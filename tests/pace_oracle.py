"""What the document says of paces, their papers, walks and even contents, without haste, as a second opinion."""

import itertools
import math
from fractions import Fraction

from tests import lot_oracle


def tables(chart):
    return [family.lots() for family in chart.families()]


def as_pace(fraction):
    return (fraction.numerator, fraction.denominator)


def rings_of_plan(plan):
    """All rings of a map of one lot a lane, each from its least lane on, with their means."""
    numbers = [dict(lot) for lot in plan]
    found = []
    for many in range(1, len(plan) + 1):
        for way in itertools.permutations(range(len(plan)), many):
            steps = list(zip(way, way[1:] + way[:1]))
            if way[0] == min(way) and all(j in numbers[i] for i, j in steps):
                found.append((way, Fraction(sum(numbers[i][j] for i, j in steps), many)))
    return sorted(found)


def come_to(plan, lane):
    found, waiting = {lane}, [lane]
    while waiting:
        for j, _ in plan[waiting.pop()]:
            if j not in found:
                found.add(j)
                waiting.append(j)
    return found


def paces_of_plan(plan):
    rings = rings_of_plan(plan)
    return [max(mean for ring, mean in rings if set(ring) & come_to(plan, lane)) for lane in range(len(plan))]


def paces(lots_of_lanes):
    """The paces as fractions: at each lane the least of those by all plans."""
    plans = [paces_of_plan(plan) for plan in itertools.product(*lots_of_lanes)]
    return [min(numbers) for numbers in zip(*plans)]


def answer_lots(lots_of_lanes, answer):
    """The lots of the map of an answer."""
    return [lot_oracle.family([((j, dict(lot)[j]),) for j, lot in zip(picks, lots)])
            for picks, lots in zip(answer, lots_of_lanes)]


def answers(lots_of_lanes):
    by_lanes = [list(itertools.product(*[[j for j, _ in lot] for lot in lots])) for lots in lots_of_lanes]
    return [[list(picks) for picks in answer] for answer in itertools.product(*by_lanes)]


def told(lots_of_lanes, content, times=1):
    """What the map tells, if all numbers of its lots are so many times as great."""
    return [min(max(content[j] + times * number for j, number in lot) for lot in lots) for lots in lots_of_lanes]


def behind(lots_of_lanes, content, many, times=1):
    found = list(content)
    for _ in range(many):
        found = told(lots_of_lanes, found, times)
    return found


def is_plan_paper(lots_of_lanes, lane, rate, paper):
    """Of a dict from lanes to tuples of a tuple and a height."""
    p, q = rate
    for i, (lot, height) in paper.items():
        if lot not in lots_of_lanes[i]:
            return False
        if not all(j in paper and q * a + paper[j][1] <= height + p for j, a in lot):
            return False
    return lane in paper


def is_answer_paper(lots_of_lanes, lane, rate, paper):
    p, q = rate
    for i, (picks, height) in paper.items():
        if len(picks) != len(lots_of_lanes[i]):
            return False
        for j, lot in zip(picks, lots_of_lanes[i]):
            if j not in dict(lot) or j not in paper or q * dict(lot)[j] + paper[j][1] < height + p:
                return False
    return lane in paper


def common_and_steps(told_paces):
    common = math.lcm(*[q for _, q in told_paces])
    return common, [common * p // q for p, q in told_paces]


def holds(lots_of_lanes, told_paces, content, lane):
    """The lots that are told under HOLDS."""
    common, s = common_and_steps(told_paces)
    return [lot for lot in lots_of_lanes[lane]
            if all(s[j] <= s[lane] and content[j] + common * a <= content[lane] + s[lane] for j, a in lot)]


def picks(lots_of_lanes, told_paces, content, lane):
    """For each lot the lanes that are told under PICKS."""
    common, s = common_and_steps(told_paces)
    return [[j for j, a in lot if s[j] >= s[lane] and content[j] + common * a >= content[lane] + s[lane]]
            for lot in lots_of_lanes[lane]]


def is_walk(lots_of_lanes, told_paces, content):
    lanes = range(len(lots_of_lanes))
    return all(holds(lots_of_lanes, told_paces, content, lane)
               and all(picks(lots_of_lanes, told_paces, content, lane)) for lane in lanes)


def lap(lots_of_lanes, content, most):
    """Ahead, many and sum, by comparing all moments with one another; None if there is none so early."""
    found = [list(content)]
    for _ in range(most):
        found.append(told(lots_of_lanes, found[-1]))
    for ahead in range(most):
        for last in range(ahead + 1, most + 1):
            more = {new - old for new, old in zip(found[last], found[ahead])}
            if len(more) == 1:
                return (ahead, last - ahead, more.pop())
    return None


def kept_below(lots_of_lanes, content, number):
    return all(new <= own + number for new, own in zip(told(lots_of_lanes, content), content))


def kept_above(lots_of_lanes, content, number):
    return all(new >= own + number for new, own in zip(told(lots_of_lanes, content), content))

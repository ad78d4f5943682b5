"""Walks: contents that a map moves by the paces of its lanes for ever, and what they tell."""

from math import gcd, lcm

from lanelots.basics import check_content, check_lane, check_many, is_content, is_integer, is_list
from lanelots.best import all_numbers, check_pace_limits, solved
from lanelots.errors import InvalidWalk, TooMany

MOST_ROUNDS = 1000


def is_pace(value):
    """Whether any value is a tuple in the form of a pace."""
    if not isinstance(value, tuple) or len(value) != 2:
        return False
    p, q = value
    return is_integer(p) and is_integer(q) and q >= 1 and gcd(p, q) == 1


def is_walk(chart, value):
    """Whether any value is a walk of the map."""
    if not isinstance(value, tuple) or len(value) != 2:
        return False
    paces, content = value
    if not is_list(paces) or len(paces) != chart.lanes or not all([is_pace(pace) for pace in paces]):
        return False
    if not is_content(content) or len(content) != chart.lanes:
        return False
    lanes = range(chart.lanes)
    return all([_holds(chart, value, lane) != [] and [] not in _picks(chart, value, lane) for lane in lanes])


def common_and_steps(paces):
    """The common number of the paces, and the step of each one."""
    common = 1
    for _, q in paces:
        common = lcm(common, q)
    return (common, [common * p // q for p, q in paces])


def _holds(chart, walk, lane):
    """The lots by which the lane is at most as far and as fast as the walk tells."""
    common, steps = common_and_steps(walk[0])
    content = walk[1]
    most = content[lane] + steps[lane]
    return [lot for lot in chart[lane].lots()
            if all([steps[j] <= steps[lane] and content[j] + common * number <= most for j, number in lot])]


def _picks(chart, walk, lane):
    """For each lot of the lane, the lanes by which it is at least as far and as fast as the walk tells."""
    common, steps = common_and_steps(walk[0])
    content = walk[1]
    least = content[lane] + steps[lane]
    return [[j for j, number in lot if steps[j] >= steps[lane] and content[j] + common * number >= least]
            for lot in chart[lane].lots()]


def walk_of(chart):
    """A walk of the map."""
    check_pace_limits(chart)
    paces, _, _, ahead = solved(chart)
    common, steps = common_and_steps(paces)
    tables = [_own_parts(family.lots(), lane, common, steps) for lane, family in enumerate(chart.families())]
    content = _even_content(tables, steps, [common * more // 60 for more in ahead])
    # So many rounds later what is faster is far enough ahead of what is slower.
    numbers = all_numbers(chart)
    rounds = max(content) - min(content) + common * (max(numbers) - min(numbers))
    slowest = min(steps)
    return (paces, [number + rounds * (step - slowest) for number, step in zip(content, steps)])


def _own_parts(lots, lane, common, steps):
    """The lots that come to lanes as fast as this one and to no faster ones; of them these lanes, numbers as told."""
    held = [lot for lot in lots if max([steps[j] for j, _ in lot]) <= steps[lane]]
    return [[(j, common * number) for j, number in lot if steps[j] == steps[lane]] for lot in held]


def _even_content(tables, steps, content):
    """A content that moves by the steps, if each lane goes on to lanes as fast as itself alone."""
    # There are such contents, as far below as one likes: so what falls comes to stand, and what rises from there, too.
    told = _one_round(tables, steps, content)
    while not all([own <= more for own, more in zip(content, told)]):
        content = [min(own, more) for own, more in zip(content, told)]
        told = _one_round(tables, steps, content)
    while told != content:
        content = told
        told = _one_round(tables, steps, content)
    return content


def _one_round(tables, steps, content):
    """What comes of the content by a round, each lane less its step."""
    return [min([max([content[j] + number for j, number in lot]) for lot in lots]) - step
            for lots, step in zip(tables, steps)]


def step_of(chart, walk, lane):
    """The step of the lane's pace."""
    _check_walk(chart, walk)
    check_lane(lane, chart.lanes)
    _, steps = common_and_steps(walk[0])
    return steps[lane]


def walked_to(chart, walk, many):
    """What stands behind so many rounds, if all numbers of the lots are the common number times as great."""
    _check_walk(chart, walk)
    check_many(many)
    _, steps = common_and_steps(walk[0])
    return [number + many * step for number, step in zip(walk[1], steps)]


def plan_from(chart, walk, lane):
    """The plan paper of the lane and its pace that the walk tells."""
    _check_walk(chart, walk)
    check_lane(lane, chart.lanes)
    _, steps = common_and_steps(walk[0])
    lanes = [j for j in range(chart.lanes) if steps[j] <= steps[lane]]
    return {j: (_holds(chart, walk, j)[0], walk[1][j]) for j in lanes}


def answer_from(chart, walk, lane):
    """The answer paper of the lane and its pace that the walk tells."""
    _check_walk(chart, walk)
    check_lane(lane, chart.lanes)
    _, steps = common_and_steps(walk[0])
    lanes = [j for j in range(chart.lanes) if steps[j] >= steps[lane]]
    return {j: ([picks[0] for picks in _picks(chart, walk, j)], walk[1][j]) for j in lanes}


def far_from(chart, walk, content, many=0):
    """The least and the greatest number by which lanes are above the walk, behind so many rounds of the content."""
    _check_walk(chart, walk)
    check_content(content, chart.lanes)
    check_many(many)
    if many > MOST_ROUNDS:
        raise TooMany("rounds", MOST_ROUNDS)
    common, _ = common_and_steps(walk[0])
    told = list(content)
    for _ in range(many):
        told = chart(told)
    far = [common * own - number for own, number in zip(told, walked_to(chart, walk, many))]
    return (min(far), max(far))


def _check_walk(chart, walk):
    if not is_walk(chart, walk):
        raise InvalidWalk(walk)

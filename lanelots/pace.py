"""How fast each lane of a map is that is gone round for ever, and what shows it from above and from below."""

from lanelots.basics import check_content, check_lane, check_many, is_integer, is_lane, is_list
from lanelots.best import check_pace_limits, is_less, paces_of
from lanelots.errors import InvalidPaper, InvalidRate
from lanelots.walks import answer_from, common_and_steps, plan_from, walk_of

MOST_PARTS = 60


def is_rate(value):
    """Whether any value is a rate."""
    if not isinstance(value, tuple) or len(value) != 2:
        return False
    p, q = value
    return is_integer(p) and is_integer(q) and 1 <= q <= MOST_PARTS


def pace(chart, lane):
    """The pace of the lane."""
    check_lane(lane, chart.lanes)
    return paces(chart)[lane]


def paces(chart):
    """The pace of each lane."""
    check_pace_limits(chart)
    return paces_of(chart)


def by_pace(chart):
    """The tuples of a pace and the sorted list of the lanes that have it, the slowest first."""
    told = paces(chart)
    # The parts of a pace are at most as many as there are lanes, so they all are parts of 60.
    sixtieths = [60 * p // q for p, q in told]
    found = []
    for many in sorted(set(sixtieths)):
        lanes = [lane for lane in range(chart.lanes) if sixtieths[lane] == many]
        found.append((told[lanes[0]], lanes))
    return found


def is_at_most(chart, lane, rate):
    """Whether the pace of the lane is at most the rate."""
    _check_lane_and_rate(chart, lane, rate)
    return not is_less(rate, pace(chart, lane))


def is_at_least(chart, lane, rate):
    """Whether the pace of the lane is at least the rate."""
    _check_lane_and_rate(chart, lane, rate)
    return not is_less(pace(chart, lane), rate)


def plan_paper(chart, lane, rate):
    """A paper that the pace of the lane is at most the rate; None."""
    if not is_at_most(chart, lane, rate):
        return None
    walk = walk_of(chart)
    return _with_heights(plan_from(chart, walk, lane), walk, rate)


def answer_paper(chart, lane, rate):
    """A paper that the pace of the lane is at least the rate; None."""
    if not is_at_least(chart, lane, rate):
        return None
    walk = walk_of(chart)
    return _with_heights(answer_from(chart, walk, lane), walk, rate)


def _with_heights(told, walk, rate):
    """The paper that the walk tells, with heights for this rate in the place of those for the pace."""
    # What holds for the numbers parted by the common number holds for the whole numbers below them, too.
    common, _ = common_and_steps(walk[0])
    return {j: (told[j][0], rate[1] * told[j][1] // common) for j in told}


def is_plan_paper(chart, lane, rate, value):
    """Whether any value is a paper that the pace of the lane is at most the rate."""
    _check_lane_and_rate(chart, lane, rate)
    if not _is_from_lanes(value, chart.lanes) or lane not in value:
        return False
    return all([_is_plan_at(chart[i], i, rate, value) for i in value])


def _is_from_lanes(value, lanes):
    """Whether any value is a dict from lanes to tuples of any value and a height."""
    if not isinstance(value, dict) or not all([is_lane(key, lanes) for key in value]):
        return False
    return all([_is_with_height(value[key]) for key in value])


def _is_with_height(value):
    return isinstance(value, tuple) and len(value) == 2 and is_integer(value[1])


def _is_plan_at(family, i, rate, paper):
    """Whether at the lane i the lot is one of the family, and comes to lanes of the paper that are low enough."""
    p, q = rate
    lot, height = paper[i]
    return lot in family and all([j in paper and q * number + paper[j][1] <= height + p for j, number in lot])


def is_answer_paper(chart, lane, rate, value):
    """Whether any value is a paper that the pace of the lane is at least the rate."""
    _check_lane_and_rate(chart, lane, rate)
    if not _is_from_lanes(value, chart.lanes) or lane not in value:
        return False
    return all([_is_answer_at(chart[i].lots(), i, rate, value) for i in value])


def _is_answer_at(lots, i, rate, paper):
    """Whether at the lane i a lane of the paper that is high enough is picked for each lot."""
    picks, height = paper[i]
    if not is_list(picks) or len(picks) != len(lots):
        return False
    return all([_is_pick(j, lot, height, rate, paper) for j, lot in zip(picks, lots)])


def _is_pick(j, lot, height, rate, paper):
    p, q = rate
    numbers = dict(lot)
    if not is_integer(j) or j not in numbers or j not in paper:
        return False
    return q * numbers[j] + paper[j][1] >= height + p


def most_behind(chart, lane, rate, paper, content, many):
    """The greatest number that the plan paper lets for the lane behind so many rounds."""
    if not is_plan_paper(chart, lane, rate, paper):
        raise InvalidPaper(paper)
    check_content(content, chart.lanes)
    check_many(many)
    p, q = rate
    return (many * p + paper[lane][1] + max(_over_heights(q, paper, content))) // q


def least_behind(chart, lane, rate, paper, content, many):
    """The least number that the answer paper lets for the lane behind so many rounds."""
    if not is_answer_paper(chart, lane, rate, paper):
        raise InvalidPaper(paper)
    check_content(content, chart.lanes)
    check_many(many)
    p, q = rate
    return -(-(many * p + paper[lane][1] + min(_over_heights(q, paper, content))) // q)


def _over_heights(parts, paper, content):
    """How much the lanes of the paper are above their heights, each so many times."""
    return [parts * content[j] - paper[j][1] for j in paper]


def _check_lane_and_rate(chart, lane, rate):
    check_lane(lane, chart.lanes)
    if not is_rate(rate):
        raise InvalidRate(rate)

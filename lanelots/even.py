"""Contents that a map moves by one number at all lanes: even ones, laps, and those that it keeps below or above."""

from lanelots.basics import check_content, check_number, is_content, is_lane
from lanelots.best import check_pace_limits, is_less, paces_of
from lanelots.errors import TooMany, Uneven
from lanelots.lots import greatest_at
from lanelots.pace import answer_paper, is_answer_paper, is_plan_paper, is_rate, plan_paper
from lanelots.walks import is_pace, walk_of

MOST_ROUNDS = 1000
MOST_APART = 1000


def is_even(chart, value):
    """Whether any value is even for the map."""
    if not isinstance(value, tuple) or len(value) != 2:
        return False
    pace, content = value
    if not is_pace(pace) or not is_content(content) or len(content) != chart.lanes:
        return False
    p, q = pace
    return [_told_times(family, content, q) - p for family in chart.families()] == list(content)


def _told_times(family, content, times):
    """What the family tells of the content, if all its numbers are so many times as great."""
    lots = [tuple([(lane, times * number) for lane, number in lot]) for lot in family.lots()]
    return min([greatest_at(lot, content) for lot in lots])


def even_of(chart):
    """A pace and a content that are even for the map; None."""
    paces, content = walk_of(chart)
    return (paces[0], content) if _are_alike(paces) else None


def _are_alike(paces):
    return paces == [paces[0]] * len(paces)


def is_uneven(chart, value):
    """Whether any value is a paper that nothing is even for the map."""
    if not isinstance(value, tuple) or len(value) != 6:
        return False
    slow, rate, plan, fast, later, answer = value
    if not is_lane(slow, chart.lanes) or not is_lane(fast, chart.lanes):
        return False
    if not is_rate(rate) or not is_rate(later) or not is_less(rate, later):
        return False
    return is_plan_paper(chart, slow, rate, plan) and is_answer_paper(chart, fast, later, answer)


def uneven_of(chart):
    """A paper that nothing is even for the map; None."""
    check_pace_limits(chart)
    paces = paces_of(chart)
    for fast, later in enumerate(paces):
        for slow, rate in enumerate(paces):
            if is_less(rate, later):
                return (slow, rate, plan_paper(chart, slow, rate), fast, later, answer_paper(chart, fast, later))
    return None


def moved_by(chart, content):
    """The number by which the map tells more than the content at all lanes alike; None."""
    check_content(content, chart.lanes)
    more = [told - own for told, own in zip(chart(content), content)]
    return more[0] if more == [more[0]] * len(more) else None


def lap_of(chart, content):
    """The rounds ahead of the content's lap, those of the lap, and how much more each lane has behind it."""
    check_content(content, chart.lanes)
    check_pace_limits(chart)
    if not _are_alike(paces_of(chart)):
        raise Uneven()
    passed = {}
    told = list(content)
    for rounds in range(MOST_ROUNDS + 1):
        apart = tuple([number - told[0] for number in told])
        if apart in passed:
            ahead, first = passed[apart]
            return (ahead, rounds - ahead, told[0] - first)
        passed[apart] = (rounds, told[0])
        told = chart(told)
    raise TooMany("rounds", MOST_ROUNDS)


def least_above(chart, number, content):
    """The least content that is kept below by the number and has at least what is told; None."""
    _check_apart(chart, number, content)
    if any([is_less((number, 1), pace) for pace in paces_of(chart)]):
        return None
    found, told = None, list(content)
    while told != found:
        found = told
        told = [max(own, more - number) for own, more in zip(found, chart(found))]
    return found


def greatest_below(chart, number, content):
    """The greatest content that is kept above by the number and has at most what is told; None."""
    _check_apart(chart, number, content)
    if any([is_less(pace, (number, 1)) for pace in paces_of(chart)]):
        return None
    found, told = None, list(content)
    while told != found:
        found = told
        told = [min(own, more - number) for own, more in zip(found, chart(found))]
    return found


def _check_apart(chart, number, content):
    """The errors of the parameters, then those of the map, then TooMany if the content's lanes are too far apart."""
    check_number(number)
    check_content(content, chart.lanes)
    check_pace_limits(chart)
    if max(content) - min(content) > MOST_APART:
        raise TooMany("apart", MOST_APART)

"""Plans and answers, their maps and which of them are best, and the rings of maps of one lot a lane."""

from lanelots.basics import check_lane, is_integer, is_list
from lanelots.best import check_pace_lanes, check_pace_limits, fraction, is_less, paces_of, solved
from lanelots.errors import InvalidAnswer, InvalidPlan, NotOneLot
from lanelots.families import Family
from lanelots.maps import Map


def plan_map(chart, plan):
    """The map that has at each lane just the plan's lot."""
    if not _is_plan(chart, plan):
        raise InvalidPlan(plan)
    return Map([Family([lot]) for lot in plan])


def _is_plan(chart, value):
    """Whether any value is a list of a lot for each lane, one of its family."""
    if not is_list(value) or len(value) != chart.lanes:
        return False
    return all([lot in chart[lane] for lane, lot in enumerate(value)])


def answer_map(chart, answer):
    """The map that has at each lane the least of the answer's lanes, each with its number in the lot."""
    if not _is_answer(chart, answer):
        raise InvalidAnswer(answer)
    return Map([_least_of_picks(family.lots(), picks) for family, picks in zip(chart.families(), answer)])


def _least_of_picks(lots, picks):
    return Family([((j, dict(lot)[j]),) for j, lot in zip(picks, lots)])


def _is_answer(chart, value):
    """Whether any value is a list of a list for each lane, of a lane for each lot that has a number in it."""
    if not is_list(value) or len(value) != chart.lanes:
        return False
    return all([_are_picks(chart[lane].lots(), picks) for lane, picks in enumerate(value)])


def _are_picks(lots, value):
    if not is_list(value) or len(value) != len(lots):
        return False
    return all([is_integer(j) and j in dict(lot) for j, lot in zip(value, lots)])


def best_plan(chart):
    """A plan whose map has the paces of the map."""
    check_pace_limits(chart)
    _, plan, _, _ = solved(chart)
    return plan


def best_answer(chart):
    """An answer whose map has the paces of the map."""
    check_pace_limits(chart)
    _, _, answer, _ = solved(chart)
    return answer


def is_best_plan(chart, value):
    """Whether any value is a plan whose map has the paces of the map."""
    check_pace_limits(chart)
    return _is_plan(chart, value) and paces_of(plan_map(chart, value)) == paces_of(chart)


def is_best_answer(chart, value):
    """Whether any value is an answer whose map has the paces of the map."""
    check_pace_limits(chart)
    return _is_answer(chart, value) and paces_of(answer_map(chart, value)) == paces_of(chart)


def rings(chart):
    """The sorted list of the tuples of a ring and its mean."""
    _check_one_lot(chart)
    tables = _tables(chart)
    return [(ring, _mean(ring, tables)) for ring in _rings(tables)]


def steepest(chart, lane):
    """The first of the rings that are come to from the lane, with the greatest mean."""
    check_lane(lane, chart.lanes)
    told = rings(chart)
    come_to = _come_to(_tables(chart), lane)
    best = None
    for ring, mean in told:
        if ring[0] in come_to and (best is None or is_less(best[1], mean)):
            best = (ring, mean)
    return best


def _tables(chart):
    """For each lane the numbers by which it leads to others."""
    return [dict(family.lots()[0]) for family in chart.families()]


def _rings(tables):
    """The sorted list of the tuples of unlike lanes, the least one first, that lead to one another and back."""
    found = []
    waiting = [(lane,) for lane in range(len(tables))]
    while waiting:
        way = waiting.pop()
        if way[0] in tables[way[-1]]:
            found.append(way)
        waiting.extend([(*way, j) for j in tables[way[-1]] if j > way[0] and j not in way])
    return sorted(found)


def _mean(ring, tables):
    nexts = [*ring[1:], ring[0]]
    return fraction(sum([tables[i][j] for i, j in zip(ring, nexts)]), len(ring))


def _come_to(tables, lane):
    """The lanes to which one comes from this one by leading on, and this one."""
    found = [lane]
    for _ in tables:
        found = found + sorted({j for i in found for j in tables[i] if j not in found})
    return found


def _check_one_lot(chart):
    """NotOneLot with the least lane that has several lots; TooMany if there are too many lanes."""
    for lane, family in enumerate(chart.families()):
        if len(family) > 1:
            raise NotOneLot(lane)
    check_pace_lanes(chart)

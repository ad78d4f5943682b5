"""What becomes of all contents if a plain map is gone round: by the flags, of which there are few."""

from math import lcm

from lanelots.basics import check_content, check_lane, check_many, check_order, is_count, is_list
from lanelots.errors import NotFalling, NotRising, OtherLanes
from lanelots.tables import all_flags, check_plain, flags_at, is_flags, map_by


def _leading(chart):
    """The dict from all flags to those to which the map leads them."""
    return {flags: tuple(chart(flags)) for flags in all_flags(chart.lanes)}


def _trail(leading, flags):
    """The flags that come from these on, each once, and the place of those that come again."""
    found = [flags]
    while leading[found[-1]] not in found:
        found.append(leading[found[-1]])
    return (found, found.index(leading[found[-1]]))


def _flags_behind(leading, flags, many):
    """The flags to which so many rounds lead these."""
    found, first = _trail(leading, flags)
    if many < first:
        return found[many]
    return found[first + (many - first) % (len(found) - first)]


def _first_and_period(trails):
    """The greatest rank of the trails, and the least common multiple of the lengths of their laps."""
    period = 1
    for found, first in trails:
        period = lcm(period, len(found) - first)
    return (max([first for _, first in trails]), period)


def comes(chart):
    """The first and the period of the map."""
    check_plain(chart)
    leading = _leading(chart)
    return _first_and_period([_trail(leading, flags) for flags in leading])


def comes_of(chart, content):
    """The first and the period of the content."""
    check_content(content, chart.lanes)
    check_plain(chart)
    leading = _leading(chart)
    return _first_and_period([_trail(leading, flags_at(content, number)) for number in content])


def settles(chart):
    """Whether the map settles."""
    _, period = comes(chart)
    return period == 1


def settled(chart):
    """The settled map; None unless the map settles."""
    first, period = comes(chart)
    return map_behind(chart, first) if period == 1 else None


def map_behind(chart, many):
    """The map of so many rounds."""
    check_many(many)
    check_plain(chart)
    leading = _leading(chart)
    return map_by([_flags_behind(leading, flags, many) for flags in leading])


def content_behind(chart, content, many):
    """The content behind so many rounds."""
    check_content(content, chart.lanes)
    return map_behind(chart, many)(content)


def laps(chart):
    """The sorted list of all laps, each told from its least flags on."""
    check_plain(chart)
    leading = _leading(chart)
    trails = [_trail(leading, flags) for flags in leading]
    # The least flags of a lap are those from which it is told first; a trail from elsewhere on begins otherwise.
    return [found for found, first in trails if first == 0 and found[0] == min(found)]


def ranks(chart):
    """The dict from all flags to their ranks."""
    check_plain(chart)
    leading = _leading(chart)
    found = {}
    for flags in leading:
        _, found[flags] = _trail(leading, flags)
    return found


def is_lap(chart, value):
    """Whether any value is a lap, told from any of its flags on."""
    check_plain(chart)
    if not is_list(value) or len(value) == 0 or not all([is_flags(flags, chart.lanes) for flags in value]):
        return False
    if len(set(value)) != len(value):
        return False
    return [tuple(chart(flags)) for flags in value] == [*value[1:], value[0]]


def is_settling(chart, many, value):
    """Whether any value is a settling paper for this COUNT."""
    check_many(many)
    check_plain(chart)
    if not isinstance(value, dict) or len(value) != len(all_flags(chart.lanes)):
        return False
    if not all([is_flags(flags, chart.lanes) for flags in value]):
        return False
    if not all([is_count(value[flags]) and value[flags] <= many for flags in value]):
        return False
    leading = _leading(chart)
    return all([_is_settling_at(flags, leading[flags], value) for flags in leading])


def _is_settling_at(flags, behind, counts):
    return flags == behind if counts[flags] == 0 else counts[behind] < counts[flags]


def stands(chart, content):
    """Whether the map tells the content again."""
    check_content(content, chart.lanes)
    check_plain(chart)
    return chart(content) == list(content)


def standing(chart):
    """The sorted list of the flags that are led to themselves."""
    check_plain(chart)
    leading = _leading(chart)
    return [flags for flags in leading if leading[flags] == flags]


def risen(chart, content):
    """The content that stands and to which this one comes; NotRising with the first lane that is lowered."""
    check_content(content, chart.lanes)
    check_plain(chart)
    for lane, (own, told) in enumerate(zip(content, chart(content))):
        if told < own:
            raise NotRising(lane)
    return _come_to(chart, content)


def fallen(chart, content):
    """The content that stands and to which this one comes; NotFalling with the first lane that is made greater."""
    check_content(content, chart.lanes)
    check_plain(chart)
    for lane, (own, told) in enumerate(zip(content, chart(content))):
        if told > own:
            raise NotFalling(lane)
    return _come_to(chart, content)


def _come_to(chart, content):
    """What stands behind as many rounds as there are lanes."""
    found = list(content)
    for _ in range(chart.lanes):
        found = chart(found)
    return found


def holders(chart, order, many):
    """For each lane the lane that it holds behind so many rounds at the order."""
    check_order(order, chart.lanes)
    content = list(order)
    for number, lane in enumerate(order):
        content[lane] = number
    return [order[number] for number in content_behind(chart, content, many)]


def held(chart, lane, many):
    """The rising list of the lanes that the lane holds behind so many rounds at some order."""
    check_lane(lane, chart.lanes)
    return map_behind(chart, many)[lane].hung()


def holding(chart, lane, other, many):
    """An order at which the lane holds the other one behind so many rounds; None."""
    check_lane(lane, chart.lanes)
    check_lane(other, chart.lanes)
    for lot in map_behind(chart, many)[lane].lots():
        low = [own for own, _ in lot]
        # All other lots have a lane that is not in this one, so what is above this lot's lanes is above its value.
        if other in low:
            high = [own for own in range(chart.lanes) if own not in low]
            return [*[own for own in low if own != other], other, *high]
    return None


def alike_from(one, other):
    """The least COUNT from which on both maps are alike at last; None."""
    ones, others = _both_leading(one, other)
    if _parting(ones, others) is not None:
        return None
    many = 0
    # Rounds that lead alike twice running lead alike for ever.
    while _unlike_flags(ones, others, many) is not None or _unlike_flags(ones, others, many + 1) is not None:
        many = many + 1
    return many


def parting_round(one, other):
    """A number of rounds, the greater first of both at least, and flags that they part; None if alike at last."""
    ones, others = _both_leading(one, other)
    return _parting(ones, others)


def _both_leading(one, other):
    """The leading of both maps; the errors of either, then OtherLanes."""
    check_plain(one)
    check_plain(other)
    if one.lanes != other.lanes:
        raise OtherLanes(one.lanes, other.lanes)
    return (_leading(one), _leading(other))


def _parting(ones, others):
    first, _ = _first_and_period([_trail(leading, flags) for leading in (ones, others) for flags in leading])
    for many in (first, first + 1):
        flags = _unlike_flags(ones, others, many)
        if flags is not None:
            return (many, flags)
    return None


def _unlike_flags(ones, others, many):
    """The first flags that so many rounds lead to unlike ones by both leadings; None."""
    for flags in ones:
        if _flags_behind(ones, flags, many) != _flags_behind(others, flags, many):
            return flags
    return None

"""From which contents a map leads to told numbers, and what shows that there are none."""

from lanelots.basics import check_row, is_content, is_lane, is_list
from lanelots.errors import TooMany
from lanelots.heads import at_ceiling, feet, heads, is_above_row, is_below_row, is_ladder, ladder
from lanelots.lots import numbers_in
from lanelots.spans import Spans, check_fitting, check_span_lanes, lifted, summit

MOST_BOXES = 200
MOST_BOXES_COUNTED = 10


def source(chart, low, high):
    """A content that the map leads to one above the floor and below the ceiling; None."""
    return fitting_source(chart, low, high, Spans(chart.lanes))


def fitting_source(chart, low, high, spans):
    """A source that fits the spans; None."""
    _check_both(chart, low, high)
    check_span_lanes(spans, [chart])
    check_fitting(spans)
    for head in heads(chart, high):
        told = at_ceiling(chart, summit(spans, head))
        if not _falls_short(told, low):
            return lifted(spans, head, _great_enough(chart, [*told, *low]))
    return None


def _falls_short(told, low):
    """The lanes on which what is told at a ceiling is less than the floor."""
    lanes = range(len(low))
    return [lane for lane in lanes if None not in (told[lane], low[lane]) and told[lane] < low[lane]]


def _great_enough(chart, numbers):
    """A number that brings each lot with a lane that has it to at least these numbers."""
    lots = [lot for family in chart.families() for lot in family.lots()]
    return max([number for number in numbers if number is not None], default=0) - min(numbers_in(lots))


def is_source(chart, low, high, value):
    """Whether any value is a content that the map leads to one above the floor and below the ceiling."""
    _check_both(chart, low, high)
    if not is_content(value) or len(value) != chart.lanes:
        return False
    told = chart(value)
    return is_above_row(told, low) and is_below_row(told, high)


def boxes(chart, low, high):
    """The sorted list of the boxes, tuples of a foot and a head."""
    _check_both(chart, low, high)
    tops = heads(chart, high)
    found = [(foot, head) for foot in feet(chart, low) for head in tops if _is_box(foot, head)]
    if len(found) > MOST_BOXES:
        raise TooMany("boxes", MOST_BOXES)
    return [(list(foot), list(head)) for foot, head in found]


def _is_box(foot, head):
    """Whether the foot's number is at most the head's, wherever both have one."""
    return all([None in (least, most) or least <= most for least, most in zip(foot, head)])


def how_many(chart, low, high):
    """How many sources there are; None if they are without end."""
    found = boxes(chart, low, high)
    if any([None in foot or None in head for foot, head in found]):
        return None
    if len(found) > MOST_BOXES_COUNTED:
        raise TooMany("boxes", MOST_BOXES_COUNTED)
    # What several boxes have in common is counted and taken off by turns, so that each content counts once.
    parts = []
    for foot, head in found:
        parts = parts + [(1, foot, head)] + _common_parts(parts, foot, head)
    return sum([sign * _contents_in(foot, head) for sign, foot, head in parts])


def _common_parts(parts, foot, head):
    """What each part has in common with the box, counted the other way."""
    found = []
    for sign, least, most in parts:
        inner_foot = [max(one, other) for one, other in zip(least, foot)]
        inner_head = [min(one, other) for one, other in zip(most, head)]
        if _is_box(inner_foot, inner_head):
            found.append((-sign, inner_foot, inner_head))
    return found


def _contents_in(foot, head):
    many = 1
    for least, most in zip(foot, head):
        many = many * (most - least + 1)
    return many


def nowhere(chart, low, high):
    """A paper that there is no source; None."""
    _check_both(chart, low, high)
    told = ladder(chart, high)
    short = [_falls_short(at_ceiling(chart, head), low) for head in told[-1]]
    return None if [] in short else (told, [lanes[0] for lanes in short])


def is_nowhere(chart, low, high, value):
    """Whether any value is a paper that there is no source."""
    _check_both(chart, low, high)
    if not isinstance(value, tuple) or len(value) != 2:
        return False
    told, lanes = value
    if not is_ladder(chart, high, told) or not is_list(lanes) or len(lanes) != len(told[-1]):
        return False
    short = [_falls_short(at_ceiling(chart, row), low) for row in told[-1]]
    return all([is_lane(lane, chart.lanes) and lane in own for lane, own in zip(lanes, short)])


def _check_both(chart, low, high):
    check_row(low, chart.lanes)
    check_row(high, chart.lanes)

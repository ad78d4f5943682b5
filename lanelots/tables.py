"""Flags, and the tables that plain maps have of them."""

from lanelots.basics import check_any_content, check_lane, check_number, is_integer, is_list
from lanelots.errors import InvalidFlags, InvalidTable, NotPlain, TooMany
from lanelots.families import Family
from lanelots.lots import numbers_in
from lanelots.maps import Map

MOST_PLAIN_LANES = 6


def check_plain(chart):
    """NotPlain with the first lane that has a number other than 0; TooMany if there are too many lanes."""
    for lane, family in enumerate(chart.families()):
        if not all([number == 0 for number in numbers_in(family.lots())]):
            raise NotPlain(lane)
    if chart.lanes > MOST_PLAIN_LANES:
        raise TooMany("lanes", MOST_PLAIN_LANES)


def is_flags(value, lanes):
    """Whether any value is flags of so many lanes."""
    if not isinstance(value, tuple) or len(value) != lanes:
        return False
    return all([is_integer(flag) and flag in (0, 1) for flag in value])


def all_flags(lanes):
    """The sorted list of all flags of so many lanes."""
    found = [()]
    for _ in range(lanes):
        found = [(*flags, flag) for flags in found for flag in (0, 1)]
    return found


def are_within(flags, other):
    """Whether the other flags have a 1 wherever these have one."""
    return all([one <= two for one, two in zip(flags, other)])


def flags_at(content, number):
    """The flags of the content at the number."""
    check_any_content(content)
    check_number(number)
    return tuple([1 if own >= number else 0 for own in content])


def led(chart, flags):
    """The flags to which the map leads these."""
    if not is_flags(flags, chart.lanes):
        raise InvalidFlags(flags)
    check_plain(chart)
    return tuple(chart(flags))


def least_flags(chart, lane):
    """The sorted list of the least flags that give the lane a 1."""
    ones = _flags_that_give(chart, lane, 1)
    return [flags for flags in ones if not any([are_within(other, flags) for other in ones if other != flags])]


def greatest_flags(chart, lane):
    """The sorted list of the greatest flags that give the lane a 0."""
    return _greatest(_flags_that_give(chart, lane, 0))


def _flags_that_give(chart, lane, flag):
    check_lane(lane, chart.lanes)
    check_plain(chart)
    return [flags for flags in all_flags(chart.lanes) if chart[lane](flags) == flag]


def _greatest(zeros):
    """Those of the flags that are within no other ones of them."""
    return [flags for flags in zeros if not any([are_within(flags, other) for other in zeros if other != flags])]


def table_of(chart):
    """The table of the map."""
    check_plain(chart)
    return [tuple(chart(flags)) for flags in all_flags(chart.lanes)]


def is_table(value):
    """Whether any value is the table of a plain map of one to six lanes."""
    lanes = _lanes_of_table(value)
    if lanes is None or not all([is_flags(flags, lanes) for flags in value]):
        return False
    if value[0] != (0,) * lanes or value[-1] != (1,) * lanes:
        return False
    pairs = list(zip(all_flags(lanes), value))
    return all([are_within(told, others_told) for flags, told in pairs for other, others_told in pairs
                if are_within(flags, other)])


def _lanes_of_table(value):
    """Of how many lanes a list of this length can be the table; None for any other value."""
    for lanes in range(1, MOST_PLAIN_LANES + 1):
        if is_list(value) and len(value) == len(all_flags(lanes)):
            return lanes
    return None


def map_by(table):
    """The plain map with this table."""
    if not is_table(table):
        raise InvalidTable(table)
    lanes = len(table[0])
    pairs = list(zip(all_flags(lanes), table))
    return Map([_family_by([flags for flags, told in pairs if told[lane] == 0]) for lane in range(lanes)])


def _family_by(zeros):
    """The family of a lane for which just these flags give a 0."""
    return Family([tuple([(lane, 0) for lane, flag in enumerate(flags) if flag == 0]) for flags in _greatest(zeros)])

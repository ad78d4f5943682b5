"""INTEGERS, COUNTS, contents and rows, and the checks of parameters that all files share."""

from lanelots.errors import InvalidContent, InvalidLane, InvalidLanes, InvalidMany, InvalidNumber, InvalidOrder
from lanelots.errors import InvalidOther, InvalidRow

LANES_AT_MOST = 12


def is_integer(value):
    """Whether any value is an INTEGER."""
    return isinstance(value, int) and not isinstance(value, bool)


def is_count(value):
    """Whether any value is a COUNT."""
    return is_integer(value) and value >= 0


def is_list(value):
    """Whether any value may be passed as a list: a tuple may, too."""
    return isinstance(value, (list, tuple))


def is_content(value):
    """Whether any value is a content of one to twelve lanes."""
    return _has_lanes(value) and all([is_integer(number) for number in value])


def is_row(value):
    """Whether any value is a row of one to twelve lanes."""
    return _has_lanes(value) and all([number is None or is_integer(number) for number in value])


def _has_lanes(value):
    return is_list(value) and 1 <= len(value) <= LANES_AT_MOST


def is_lane(value, lanes):
    """Whether any value is one of so many lanes."""
    return is_count(value) and value < lanes


def is_order(value, lanes):
    """Whether any value is a list of so many lanes, each once."""
    if not is_list(value) or not all([is_integer(lane) for lane in value]):
        return False
    return sorted(value) == list(range(lanes))


def check_content(content, lanes):
    """InvalidContent unless a content of so many lanes."""
    if not is_content(content) or len(content) != lanes:
        raise InvalidContent(content)


def check_any_content(content):
    """InvalidContent unless a content of one to twelve lanes."""
    if not is_content(content):
        raise InvalidContent(content)


def check_row(row, lanes):
    """InvalidRow unless a row of so many lanes."""
    if not is_row(row) or len(row) != lanes:
        raise InvalidRow(row)


def check_lanes(lanes, least):
    """InvalidLanes unless an INTEGER from least to twelve."""
    if not is_integer(lanes) or not least <= lanes <= LANES_AT_MOST:
        raise InvalidLanes(lanes)


def check_lane(lane, lanes):
    """InvalidLane unless one of so many lanes."""
    if not is_lane(lane, lanes):
        raise InvalidLane(lane)


def check_number(number):
    """InvalidNumber unless an INTEGER."""
    if not is_integer(number):
        raise InvalidNumber(number)


def check_many(many):
    """InvalidMany unless a COUNT."""
    if not is_count(many):
        raise InvalidMany(many)


def check_order(order, lanes):
    """InvalidOrder unless a list of so many lanes, each once."""
    if not is_order(order, lanes):
        raise InvalidOrder(order)


def spread(content):
    """The greatest less the least number."""
    check_any_content(content)
    return max(content) - min(content)


def farthest(content, other):
    """The greatest distance of the numbers of one lane."""
    _check_pair(content, other)
    return max([abs(one - two) for one, two in zip(content, other)])


def is_at_most(content, other):
    """Whether no lane of content is above that of other."""
    _check_pair(content, other)
    return all([one <= two for one, two in zip(content, other)])


def raised(content, number):
    """The content with the number added to all lanes."""
    check_any_content(content)
    check_number(number)
    return [own + number for own in content]


def turned(content):
    """The content with all signs changed."""
    check_any_content(content)
    return [-number for number in content]


def moved(content, order):
    """The content in which lane order[i] has what lane i has here."""
    check_any_content(content)
    check_order(order, len(content))
    found = list(content)
    for lane, number in zip(order, content):
        found[lane] = number
    return found


def _check_pair(content, other):
    check_any_content(content)
    if not is_content(other) or len(other) != len(content):
        raise InvalidOther(other)


def copied(value):
    """The value with new lists and dicts in it, however deep."""
    if isinstance(value, list):
        return [copied(part) for part in value]
    if isinstance(value, tuple):
        return tuple([copied(part) for part in value])
    if isinstance(value, dict):
        return {key: copied(value[key]) for key in value}
    return value

"""Lots: lanes with a number added to each; their values, and which of them are under or over others."""

from lanelots.basics import LANES_AT_MOST, is_content, is_integer, is_lane, is_list
from lanelots.errors import InvalidContent, InvalidLot, InvalidLots, TooMany

MOST_LOTS = 60
MOST_LISTED = 200


def is_lot(value):
    """Whether any value is a lot."""
    if not isinstance(value, tuple) or not 1 <= len(value) <= LANES_AT_MOST:
        return False
    ahead = -1
    for part in value:
        if not _is_part(part) or part[0] <= ahead:
            return False
        ahead = part[0]
    return True


def _is_part(value):
    if not isinstance(value, tuple) or len(value) != 2:
        return False
    return is_lane(value[0], LANES_AT_MOST) and is_integer(value[1])


def lot_value(lot, content):
    """The greatest of the lot's lanes, each with the lot's number added."""
    check_lot(lot)
    check_reaching(content, [lot])
    return greatest_at(lot, content)


def co_value(lot, content):
    """The least of the lot's lanes, each with the lot's number added."""
    check_lot(lot)
    check_reaching(content, [lot])
    return least_at(lot, content)


def greatest_at(lot, content):
    """What lot_value tells, of a lot and a content that are known to be right."""
    return max([content[lane] + number for lane, number in lot])


def least_at(lot, content):
    """What co_value tells, of a lot and a content that are known to be right."""
    return min([content[lane] + number for lane, number in lot])


def is_under(one, other):
    """Whether the one lot is under the other one."""
    _check_both(one, other)
    return first_under([one], other) is not None


def is_over(one, other):
    """Whether the one co-lot is over the other one."""
    _check_both(one, other)
    return first_over([one], other) is not None


def first_under(lots, lot):
    """The first of the lots that is under this one; None."""
    numbers = dict(lot)
    for one in lots:
        if _is_within(one, numbers):
            return one
    return None


def _is_within(lot, numbers):
    """Whether each lane of the lot is there, with a number that is at least as great."""
    for lane, number in lot:
        if lane not in numbers or numbers[lane] < number:
            return False
    return True


def first_over(lots, lot):
    """The first of the co-lots that is over this one; None."""
    # With all signs changed, over is under.
    found = first_under(turned_lots(lots), turned_lot(lot))
    return None if found is None else turned_lot(found)


def least_lots(lots):
    """The sorted list of the lots under which no other one is."""
    check_lots(lots)
    return least_of(plain_lots(lots), MOST_LISTED)


def over_lots(lots):
    """The sorted list of the co-lots over which no other one is."""
    check_lots(lots)
    return over_of(plain_lots(lots), MOST_LISTED)


def least_of(lots, most, what="lots"):
    """The same as least_lots, of any number of plain lots; TooMany if more than so many are left."""
    kept = []
    # What is under another lot has fewer lanes or a lesser sum: it comes first, so what is kept stays.
    for lot in sorted(sorted(set(lots)), key=_weight):
        if first_under(kept, lot) is None:
            if len(kept) == most:
                raise TooMany(what, most)
            kept.append(lot)
    return sorted(kept)


def _weight(lot):
    return (len(lot), sum([number for _, number in lot]))


def over_of(lots, most):
    """The same as over_lots, of any number of plain co-lots; TooMany if more than so many are left."""
    return sorted(turned_lots(least_of(turned_lots(lots), most)))


def least_joins(ones, others, most=MOST_LOTS, what="lots"):
    """The least lots of the joins of one of the first lots with one of the second ones; TooMany as of a family."""
    # A lot with one of the other side under it is a join itself, and under all its further joins.
    done = [lot for lot in ones if first_under(others, lot) is not None]
    done = done + [lot for lot in others if first_under(ones, lot) is not None]
    open_ones = [lot for lot in ones if first_under(others, lot) is None]
    open_others = [lot for lot in others if first_under(ones, lot) is None]
    return least_of(done + [joined(one, other) for one in open_ones for other in open_others], most, what)


def joined(one, other):
    """The lot with the lanes of both, with the greater number where both have the lane."""
    numbers = dict(one)
    for lane, number in other:
        if lane not in numbers or numbers[lane] < number:
            numbers[lane] = number
    return tuple(sorted(numbers.items()))


def turned_choices(lots):
    """The co-lots of all choices, with all signs changed; TooMany if so of some of the first lots."""
    found = []
    for lot in lots:
        taken = [((lane, -number),) for lane, number in lot]
        found = least_joins(found, taken) if found else taken
    return found


def least_choices(lots, most, what):
    """The co-lots of the other side of the family of these least lots; TooMany if there are more than so many."""
    if not lots:
        return [()]
    lane = min([lot[0][0] for lot in lots])
    numbers = {lot[0][1] for lot in lots if lot[0][0] == lane}
    found = {}
    # Each co-lot of what a number leaves to the other lanes is one in the end, with this number or a greater one:
    # so these are never more, and it has the first number with which it was found.
    for number in [None, *sorted(numbers, reverse=True)]:
        left = _left_by(lots, lane, number)
        rests = [] if () in left else least_choices(least_of(left, len(left)), most, what)
        for rest in rests:
            found.setdefault(rest, number)
        if len(found) > most:
            raise TooMany(what, most)
    return [rest if found[rest] is None else ((lane, found[rest]), *rest) for rest in found]


def _left_by(lots, lane, number):
    """Of the lots whose number at the lane is less than this one, or that lack the lane, the parts on other lanes."""
    found = []
    for lot in lots:
        if lot[0][0] != lane:
            found.append(lot)
        elif number is None or lot[0][1] < number:
            found.append(lot[1:])
    return found


def turned_lot(lot):
    """The lot with all signs changed."""
    return tuple([(lane, -number) for lane, number in lot])


def turned_lots(lots):
    """The lots with all signs changed, in the same sequence."""
    return [turned_lot(lot) for lot in lots]


def row_of(lot, lanes):
    """The row of so many lanes that has the lot's numbers with changed signs, None elsewhere."""
    numbers = dict(lot)
    return [-numbers[lane] if lane in numbers else None for lane in range(lanes)]


def raised_lots(lots, more):
    """The lots with so much more at each number."""
    return [tuple([(lane, number + more) for lane, number in lot]) for lot in lots]


def renumbered_lots(lots, order):
    """The lots with lane order[i] in the place of each lane i."""
    return [tuple(sorted([(order[lane], number) for lane, number in lot])) for lot in lots]


def plain_lots(lots):
    """The lots as a list of plain tuples of plain tuples."""
    return [tuple([(lane, number) for lane, number in lot]) for lot in lots]


def lanes_in(lots):
    """The sorted list of the lanes of the lots."""
    return sorted({lane for lot in lots for lane, _ in lot})


def numbers_in(lots):
    """All numbers of the lots."""
    return [number for lot in lots for _, number in lot]


def is_reaching(value, lots):
    """Whether any value is a content with all lanes of the lots."""
    return is_content(value) and len(value) > lanes_in(lots)[-1]


def check_reaching(content, lots):
    """InvalidContent unless a content with all lanes of the lots."""
    if not is_reaching(content, lots):
        raise InvalidContent(content)


def check_lot(lot):
    """InvalidLot unless a lot."""
    if not is_lot(lot):
        raise InvalidLot(lot)


def check_lots(lots):
    """InvalidLots unless a list of lots, one at least; TooMany if it is too long."""
    if not is_list(lots) or len(lots) == 0:
        raise InvalidLots(None)
    for position, lot in enumerate(lots):
        if not is_lot(lot):
            raise InvalidLots(position)
    if len(lots) > MOST_LISTED:
        raise TooMany("lots", MOST_LISTED)


def _check_both(one, other):
    check_lot(one)
    check_lot(other)

"""Ceilings and floors: what a map tells at them, its heads and feet, and ladders that show the heads."""

from lanelots.basics import check_many, check_row, is_list, is_row
from lanelots.errors import TooMany
from lanelots.gaps import value_at
from lanelots.lots import first_under, joined, least_choices, least_joins, least_of, raised_lots, row_of

MOST_ROWS = 200
MOST_ROUNDS_BACK = 40


def at_ceiling(chart, row):
    """The ceiling that the map tells at the ceiling."""
    check_row(row, chart.lanes)
    return [value_at(family, row) for family in chart.families()]


def at_floor(chart, row):
    """The floor that the map tells at the floor."""
    check_row(row, chart.lanes)
    return [_least_at_floor(family.lots(), row) for family in chart.families()]


def _least_at_floor(lots, row):
    """The least of what the lots tell at the floor; None if one tells nothing."""
    told = [_greatest_at_floor(lot, row) for lot in lots]
    return None if None in told else min(told)


def _greatest_at_floor(lot, row):
    return max([row[lane] + number for lane, number in lot if row[lane] is not None], default=None)


def is_below_row(row, ceiling):
    """Whether the row has a number, at most as great, wherever the ceiling has one."""
    return all([most is None or (own is not None and own <= most) for own, most in zip(row, ceiling)])


def is_above_row(row, floor):
    """Whether the row has a number, at least as great, wherever the floor has one."""
    return all([least is None or (own is not None and own >= least) for own, least in zip(row, floor)])


def row_key(row):
    """What rows are sorted by: None is ahead of all numbers."""
    return [(own is not None, own) for own in row]


# A ceiling stands as the lot of its numbers with changed signs: it lies below another one if that one's lot is under
# its own, and is lessened by joins. A floor stands as such a co-lot.


def heads(chart, row):
    """The sorted list of the heads for the ceiling."""
    return ladder(chart, row)[-1]


def ladder(chart, row):
    """The own ladder: for each lane the sorted heads for the ceiling with None behind this lane."""
    check_row(row, chart.lanes)
    lots = [()]
    found = []
    for family, number in zip(chart.families(), row):
        if number is not None:
            lots = least_joins(lots, raised_lots(family.lots(), -number), MOST_ROWS, "rows")
        found.append(_sorted_rows(lots, chart.lanes))
    return found


def _sorted_rows(lots, lanes):
    return sorted([row_of(lot, lanes) for lot in lots], key=row_key)


def feet(chart, row):
    """The sorted list of the feet for the floor."""
    check_row(row, chart.lanes)
    lots, found = [], [()]
    for family, number in zip(chart.families(), row):
        if number is not None:
            lots = lots + raised_lots(family.lots(), -number)
            lots = least_of(lots, len(lots))
            found = least_choices(lots, MOST_ROWS, "rows")
    return _sorted_rows(found, chart.lanes)


def is_head(chart, row, value):
    """Whether any value is a head for the ceiling."""
    check_row(row, chart.lanes)
    if not _is_row_of(value, chart.lanes) or not is_below_row(at_ceiling(chart, value), row):
        return False
    return not any([is_below_row(at_ceiling(chart, other), row) for other in _shifted(value, 1)])


def is_foot(chart, row, value):
    """Whether any value is a foot for the floor."""
    check_row(row, chart.lanes)
    if not _is_row_of(value, chart.lanes) or not is_above_row(at_floor(chart, value), row):
        return False
    return not any([is_above_row(at_floor(chart, other), row) for other in _shifted(value, -1)])


def _is_row_of(value, lanes):
    return is_row(value) and len(value) == lanes


def _shifted(row, more):
    """The rows that come if one of its numbers is so much more."""
    numbered = [lane for lane, own in enumerate(row) if own is not None]
    return [[*row[:lane], row[lane] + more, *row[lane + 1:]] for lane in numbered]


def is_ladder(chart, row, value):
    """Whether any value is a ladder for the ceiling."""
    check_row(row, chart.lanes)
    if not is_list(value) or len(value) != chart.lanes:
        return False
    if not all([_are_rows(rows, chart.lanes) for rows in value]):
        return False
    ahead = [()]
    for family, number, rows in zip(chart.families(), row, value):
        told = least_of([_lot_of(own) for own in rows], len(rows))
        wanted = ahead if number is None else _joins(ahead, raised_lots(family.lots(), -number))
        if None in [first_under(told, lot) for lot in wanted]:
            return False
        ahead = told
    return True


def _are_rows(value, lanes):
    return is_list(value) and all([_is_row_of(row, lanes) for row in value])


def _joins(ones, others):
    return [joined(one, other) for one in ones for other in others]


def _lot_of(row):
    """The lot of the row's numbers with changed signs, perhaps without any lane."""
    return tuple([(lane, -own) for lane, own in enumerate(row) if own is not None])


def heads_back(chart, row, many):
    """The sorted list of the heads back through so many rounds."""
    check_row(row, chart.lanes)
    check_many(many)
    if many > MOST_ROUNDS_BACK:
        raise TooMany("rounds", MOST_ROUNDS_BACK)
    found = [list(row)]
    for _ in range(many):
        lots = [_lot_of(head) for own in found for head in heads(chart, own)]
        found = _sorted_rows(least_of(lots, MOST_ROWS, "rows"), chart.lanes)
    return found

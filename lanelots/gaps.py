"""How far a family can be above another one where spans fit, and which spans hold behind a map."""

from lanelots.basics import check_lanes, check_number, is_lane, is_list, is_row
from lanelots.errors import InvalidRow, LackingLane
from lanelots.lots import check_lot, numbers_in, row_of
from lanelots.spans import Spans, check_fitting, check_span_lanes, lifted, sum_of, summit, way


def value_at(family, row):
    """The family's value at the row; None if none of its lots has one."""
    if not is_row(row) or len(row) <= family.hung()[-1]:
        raise InvalidRow(row)
    values = [_lot_value_at(lot, row) for lot in family.lots()]
    return min([value for value in values if value is not None], default=None)


def _lot_value_at(lot, row):
    if None in [row[lane] for lane, _ in lot]:
        return None
    return max([row[lane] + number for lane, number in lot])


def corner(lot, lanes):
    """The row of so many lanes at which all numbers of the lot come to 0, None elsewhere."""
    check_lot(lot)
    check_lanes(lanes, lot[-1][0] + 1)
    return row_of(lot, lanes)


def gap(spans, family, second):
    """How much the family can be above the second one where the spans fit; None without end."""
    _check_families(spans, family, second)
    values = [value_at(family, _summit_of(spans, lot)) for lot in second.lots()]
    return None if None in values else max(values)


def _summit_of(spans, lot):
    """The summit of the corner of the lot."""
    return summit(spans, row_of(lot, spans.lanes))


def at_most(spans, family, second, number):
    """A paper that the gap is at most the number; None."""
    check_number(number)
    _check_families(spans, family, second)
    found = [_lot_and_ways(spans, family, lot, number) for lot in second.lots()]
    return None if None in found else found


def _lot_and_ways(spans, family, second_lot, number):
    """The first lot of the family that is at most the number at the summit, and ways that show it; None."""
    row = _summit_of(spans, second_lot)
    for lot in family.lots():
        value = _lot_value_at(lot, row)
        if value is not None and value <= number:
            return (lot, [_way_to(spans, lane, row[lane], second_lot) for lane, _ in lot])
    return None


def _way_to(spans, lane, height, lot):
    """A way from the lane to a lane of the lot that shows how high the summit is on this lane."""
    sums = spans.sums()
    lasts = [last for last, more in lot if (lane, last) in sums and sums[(lane, last)] - more == height]
    return way(spans, lane, lasts[0])


def is_at_most(spans, family, second, number, value):
    """Whether any value is a paper that the gap is at most the number."""
    check_number(number)
    _check_families(spans, family, second)
    if not is_list(value) or len(value) != len(second):
        return False
    return all([_is_lot_and_ways(spans, family, lot, number, part) for lot, part in zip(second.lots(), value)])


def _is_lot_and_ways(spans, family, second_lot, number, value):
    if not isinstance(value, tuple) or len(value) != 2:
        return False
    lot, ways = value
    if lot not in family or not is_list(ways) or len(ways) != len(lot):
        return False
    return all([_is_way_to(spans, part, second_lot, number, own) for part, own in zip(lot, ways)])


def _is_way_to(spans, part, second_lot, number, value):
    """Whether any value is a way from the part's lane that ends low enough at a lane of the second lot."""
    lane, more = part
    total = sum_of(spans, value)
    numbers = dict(second_lot)
    if total is None or value[0] != lane or value[-1] not in numbers:
        return False
    return more + total <= number + numbers[value[-1]]


def above(spans, family, second, number):
    """A content that fits at which the family is by more than the number above the second one; None."""
    check_number(number)
    _check_families(spans, family, second)
    # At the lanes without a number each lot of the family comes to more than the number by this.
    more = number + 1 - min(numbers_in(family.lots()))
    for lot in second.lots():
        value = value_at(family, _summit_of(spans, lot))
        if value is None or value > number:
            return lifted(spans, row_of(lot, spans.lanes), more)
    return None


def is_above(spans, family, second, number, value):
    """Whether any value is a content that fits at which the family is by more than the number above the second one."""
    check_number(number)
    _check_families(spans, family, second)
    return value in spans and family(value) - second(value) > number


def endless(spans, family, second):
    """A lot of the second family and the lanes from which no way leads to it, if the gap is without end; None."""
    _check_families(spans, family, second)
    for lot in second.lots():
        row = _summit_of(spans, lot)
        if value_at(family, row) is None:
            return (lot, [lane for lane in range(spans.lanes) if row[lane] is None])
    return None


def is_endless(spans, family, second, value):
    """Whether any value is a paper that the gap is without end."""
    _check_families(spans, family, second)
    if not isinstance(value, tuple) or len(value) != 2:
        return False
    lot, lanes = value
    if lot not in second or not is_list(lanes) or not all([is_lane(lane, spans.lanes) for lane in lanes]):
        return False
    if len(set(lanes)) != len(lanes) or _has_one_of(lot, lanes):
        return False
    if not all([j in lanes for i, j, _ in spans.differences() if i in lanes]):
        return False
    return all([_has_one_of(own, lanes) for own in family.lots()])


def _has_one_of(lot, lanes):
    return any([lane in lanes for lane, _ in lot])


def behind(spans, chart):
    """The spans behind the spans and the map."""
    _check_charts(spans, [chart])
    families = chart.families()
    found = []
    for i, family in enumerate(families):
        for j, second in enumerate(families):
            most = None if i == j else gap(spans, family, second)
            if most is not None:
                found.append((i, j, most))
    return Spans(spans.lanes, found)


def leads(spans, chart, other):
    """Whether the map leads each content that fits the spans to one that fits the other ones."""
    return slip(spans, chart, other) is None


def slip(spans, chart, other):
    """A content that fits the spans and goes to one that does not fit the other ones; None."""
    _check_charts(spans, [chart, other])
    for i, j, number in other.differences():
        content = above(spans, chart[i], chart[j], number)
        if content is not None:
            return content
    return None


def is_slip(spans, chart, other, value):
    """Whether any value is a content that fits the spans and goes to one that does not fit the other ones."""
    _check_charts(spans, [chart, other])
    return value in spans and chart(value) not in other


def keeps(spans, chart):
    """Whether the map leads the spans into themselves."""
    return leads(spans, chart, spans)


def alike_where(spans, chart, second):
    """Whether both maps tell the same of each content that fits."""
    return unlike_where(spans, chart, second) is None


def unlike_where(spans, chart, second):
    """The least lane that both maps do not tell alike, and a content that fits at which they do not; None."""
    _check_charts(spans, [chart, second])
    for lane in range(spans.lanes):
        content = above(spans, chart[lane], second[lane], 0)
        if content is None:
            content = above(spans, second[lane], chart[lane], 0)
        if content is not None:
            return (lane, content)
    return None


def is_unlike_where(spans, chart, second, value):
    """Whether any value is a lane and a content that fits at which both maps do not tell it alike."""
    _check_charts(spans, [chart, second])
    if not isinstance(value, tuple) or len(value) != 2:
        return False
    lane, content = value
    if not is_lane(lane, spans.lanes) or content not in spans:
        return False
    return chart[lane](content) != second[lane](content)


def _check_charts(spans, others):
    """OtherLanes if one of these has not as many lanes as the spans; NothingFits if no content fits them."""
    check_span_lanes(spans, others)
    check_fitting(spans)


def _check_families(spans, family, second):
    """LackingLane with the least lane that the spans lack of the first family that has one; NothingFits."""
    for own in (family, second):
        lacking = [lane for lane in own.hung() if lane >= spans.lanes]
        if lacking:
            raise LackingLane(lacking[0])
    check_fitting(spans)

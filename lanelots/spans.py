"""Spans: how far lanes may be above others; ways, rings, closed spans, and the highest contents that fit."""

from lanelots.basics import check_any_content, check_lane, check_lanes, check_many, check_number, check_row, is_content
from lanelots.basics import is_integer, is_lane, is_list
from lanelots.errors import InvalidDifferences, NothingFits, OtherLanes


class Spans:
    """One to twelve lanes and differences: a content fits if x_i - x_j is at most d, for each (i, j, d)."""

    def __init__(self, lanes, differences=()):
        check_lanes(lanes, 1)
        _check_differences(differences, lanes)
        self._lanes = lanes
        self._numbers = _least_numbers(differences)
        self._sums = _least_sums(lanes, self._numbers)

    @staticmethod
    def ball(content, many):
        """The spans in which no two lanes are farther from where they stand in the content than so many."""
        check_any_content(content)
        check_many(many)
        pairs = _pairs(len(content))
        return Spans(len(content), [(i, j, content[i] - content[j] + many) for i, j in pairs])

    @property
    def lanes(self):
        """How many lanes the spans have."""
        return self._lanes

    def differences(self):
        """The sorted list of the differences, of each pair the one that counts."""
        return sorted([(i, j, number) for (i, j), number in self._numbers.items()])

    def number(self, one, other):
        """The number that counts of this pair of lanes; None if none is told, or for any other values."""
        return self._numbers.get((one, other)) if is_integer(one) and is_integer(other) else None

    def closed(self):
        """The closed spans."""
        sums = self.sums()
        return Spans(self._lanes, [(i, j, sums[(i, j)]) for i, j in _pairs(self._lanes) if (i, j) in sums])

    def is_empty(self):
        """Whether no content fits."""
        return self._sums is None

    def sums(self):
        """The dict from all pairs of lanes, also of a lane and itself, to the least sum of a way; NothingFits."""
        if self._sums is None:
            raise NothingFits()
        return {pair: self._sums[pair] for pair in self._sums}

    def __len__(self):
        return len(self._numbers)

    def __contains__(self, x):
        if not is_content(x) or len(x) != self._lanes:
            return False
        return all([x[i] - x[j] <= number for (i, j), number in self._numbers.items()])

    def __and__(self, other):
        """The spans of the differences of both."""
        check_span_lanes(self, [other])
        return Spans(self._lanes, self.differences() + other.differences())

    def __neg__(self):
        """The spans that the contents fit with all signs changed."""
        return Spans(self._lanes, [(j, i, number) for i, j, number in self.differences()])

    def __eq__(self, other):
        return isinstance(other, Spans) and self._lanes == other._lanes and self._sums == other._sums

    def __repr__(self):
        return f"Spans({self._lanes}, {self.differences()})"


def _pairs(lanes):
    """All pairs of two unlike lanes, sorted."""
    return [(i, j) for i in range(lanes) for j in range(lanes) if i != j]


def _least_numbers(differences):
    """For each pair of lanes the least number that is told of it."""
    found = {}
    for i, j, number in differences:
        if (i, j) not in found or number < found[(i, j)]:
            found[(i, j)] = number
    return found


def _least_sums(lanes, numbers):
    """The least sums of the ways, by the lanes on which they may pass; None if there is a ring."""
    sums = {(lane, lane): 0 for lane in range(lanes)}
    for pair in numbers:
        sums[pair] = numbers[pair]
    for passed in range(lanes):
        for i in range(lanes):
            for j in range(lanes):
                if (i, passed) in sums and (passed, j) in sums:
                    number = sums[(i, passed)] + sums[(passed, j)]
                    if (i, j) not in sums or number < sums[(i, j)]:
                        sums[(i, j)] = number
    return None if min([sums[(lane, lane)] for lane in range(lanes)]) < 0 else sums


def within(spans, other):
    """Whether all that fits the spans fits the other ones."""
    check_span_lanes(spans, [other])
    if spans.is_empty():
        return True
    sums = spans.sums()
    return all([(i, j) in sums and sums[(i, j)] <= number for i, j, number in other.differences()])


def sum_of(spans, way):
    """The sum of the way; None for any value that is none."""
    if not is_list(way) or len(way) == 0 or not all([is_lane(lane, spans.lanes) for lane in way]):
        return None
    numbers = [spans.number(one, other) for one, other in zip(way, way[1:])]
    return None if None in numbers else sum(numbers)


def is_ring(spans, value):
    """Whether any value is a list of unlike lanes, round which the told differences come to less than 0."""
    if not is_list(value) or len(value) < 2:
        return False
    total = sum_of(spans, [*value, value[0]])
    return total is not None and total < 0 and len(set(value)) == len(value)


def ring(spans):
    """A ring; None if some content fits."""
    ends = list(range(spans.lanes))
    nexts, falling = _nexts(spans, ends)
    if falling is None:
        return None
    # What falls for ever leads to a ring, and is on it behind as many lanes as there are.
    lane = falling
    for _ in ends:
        lane = nexts[lane]
    found = [lane]
    while nexts[found[-1]] != lane:
        found.append(nexts[found[-1]])
    return found


def way(spans, one, other):
    """A way from lane one to lane other with the least sum; None."""
    check_lane(one, spans.lanes)
    check_lane(other, spans.lanes)
    check_fitting(spans)
    nexts, _ = _nexts(spans, [other])
    if one != other and one not in nexts:
        return None
    found = [one]
    while found[-1] != other:
        found.append(nexts[found[-1]])
    return found


def _nexts(spans, ends):
    """For each lane the next one on a way of the least sum to an end, and a lane whose sum falls for ever; None."""
    sums = {lane: 0 for lane in ends}
    nexts = {}
    falling = None
    for _ in range(spans.lanes):
        falling = None
        for i, j, number in spans.differences():
            if j in sums and (i not in sums or sums[j] + number < sums[i]):
                sums[i] = sums[j] + number
                nexts[i] = j
                falling = i
    return (nexts, falling)


def fitting(spans):
    """A content that fits; None."""
    if spans.is_empty():
        return None
    return summit(spans, [0] * spans.lanes)


def needless(spans):
    """The sorted list of the differences that are given by the others."""
    check_fitting(spans)
    told = spans.differences()
    return [own for own in told if _is_given(own, told, spans.lanes)]


def lean(spans):
    """The spans that are left if, from the last difference on, each one goes that is given by those that are left."""
    check_fitting(spans)
    told = spans.differences()
    left = list(told)
    for own in told[::-1]:
        if _is_given(own, left, spans.lanes):
            left.remove(own)
    return Spans(spans.lanes, left)


def _is_given(difference, told, lanes):
    """Whether a way by the other ones has no greater sum."""
    i, j, number = difference
    sums = Spans(lanes, [other for other in told if other != difference]).sums()
    return (i, j) in sums and sums[(i, j)] <= number


def summit(spans, row):
    """The summit of the row."""
    check_row(row, spans.lanes)
    sums = spans.sums()
    return [_least_by_ways(lane, row, sums) for lane in range(spans.lanes)]


def _least_by_ways(lane, row, sums):
    """The least of the row's numbers with the sums of the ways there; None if no way leads to one."""
    numbers = [own + sums[(lane, j)] for j, own in enumerate(row) if own is not None and (lane, j) in sums]
    return min(numbers, default=None)


def lifted(spans, row, number):
    """A content that fits, with the numbers of the summit, and at least this number in all other lanes."""
    check_row(row, spans.lanes)
    check_number(number)
    found = summit(spans, row)
    # No way leads from the lanes without a number to the others, so they fit as far above these as one likes.
    base = summit(spans, [0] * spans.lanes)
    least = [number - base[lane] for lane in range(spans.lanes) if found[lane] is None]
    for i, j, most in spans.differences():
        if found[i] is not None and found[j] is None:
            least.append(found[i] - most - base[j])
    more = max(least, default=0)
    return [base[lane] + more if found[lane] is None else found[lane] for lane in range(spans.lanes)]


def check_fitting(spans):
    """NothingFits if no content fits."""
    if spans.is_empty():
        raise NothingFits()


def check_span_lanes(spans, others):
    """OtherLanes with the first one of these that has not as many lanes as the spans."""
    for other in others:
        if other.lanes != spans.lanes:
            raise OtherLanes(spans.lanes, other.lanes)


def _check_differences(differences, lanes):
    """InvalidDifferences unless a list of tuples of two unlike ones of so many lanes, and an INTEGER."""
    if not is_list(differences):
        raise InvalidDifferences(None)
    for position, difference in enumerate(differences):
        if not _is_difference(difference, lanes):
            raise InvalidDifferences(position)


def _is_difference(value, lanes):
    if not isinstance(value, tuple) or len(value) != 3:
        return False
    i, j, number = value
    return is_lane(i, lanes) and is_lane(j, lanes) and i != j and is_integer(number)

"""lanelots.sources: sources, boxes, how many sources there are, nowhere papers, sources that fit (55 to 58)."""

import math

from lanelots.errors import InvalidRow, NothingFits, OtherLanes, TooMany
from lanelots.families import Family
from lanelots.heads import feet, heads, ladder
from lanelots.maps import Map
from lanelots.sources import boxes, fitting_source, how_many, is_nowhere, is_source, nowhere, source
from lanelots.spans import Spans
from tests import row_oracle as oracle
from tests import span_oracle
from tests.helpers import HUGE, NO_PAPERS, NOT_CONTENTS_OF_TWO, NOT_ROWS_OF_TWO, Case, antichain
from tests.test_heads import CHART, FLOOR, MORE, ROWS, SAME, TWO_HUNDRED, tables
from tests.test_maps import drawn_charts

NONE = [None, None]
EMPTY = Spans(2, [(0, 1, -1), (1, 0, 0)])
SIX = [None] * 6


def drawn_sources(times, lanes=3, most=3):
    """Maps with a floor and a ceiling, wide and narrow ones, of some of which there are sources."""
    for families, draw in drawn_charts(times, 3, lanes):
        chart = Map(families)
        told = chart(draw.content(chart.lanes, most))
        apart = draw.pick((0, 0, 1, 4))
        low = [None if draw.below(4) == 0 else number - draw.below(apart + 1) for number in told]
        high = [None if draw.below(4) == 0 else number + draw.below(apart + 1) for number in told]
        if draw.below(3) == 0:
            lane = draw.below(chart.lanes)
            low[lane] = draw.number(most) if low[lane] is None else low[lane] + 1 + draw.below(3)
        yield chart, low, high, draw


def plain_boxes(chart, low, high):
    found = [(foot, head) for foot in oracle.feet_by_lanes(tables(chart), low)[-1]
             for head in oracle.ladder(tables(chart), high)[-1]]
    return [(foot, head) for foot, head in found
            if all(least is None or most is None or least <= most for least, most in zip(foot, head))]


def is_one(chart, low, high, content):
    return oracle.above(chart(content), low) and oracle.below(chart(content), high)


def stairs(many):
    """A map of two lanes, low and high, of which there are so many boxes, all of whose rows have numbers."""
    chart = Map([Family(antichain(many)), Family([((0, 0),), ((1, 0),)])])
    return chart, [None, -99], [0, None]


class Told(Case):
    def test_examples(self):
        chart = Map([Family([((0, 2),), ((1, 2),)]), Family([((1, 0),)])])
        self.same((boxes(chart, [5, 3], [5, 3]), how_many(chart, [5, 3], [5, 3])), ([([3, 3], [None, 3])], None))
        self.same((source(chart, [6, 3], [6, 3]), how_many(chart, [6, 3], [6, 3])), (None, 0))

    def test_drawn_ones(self):
        seen = {True: 0, False: 0}
        for chart, low, high, draw in drawn_sources(250, 4, 4):
            wanted = bool(plain_boxes(chart, low, high))
            seen[wanted] += 1
            content, paper = source(chart, low, high), nowhere(chart, low, high)
            # Always one of both, and never both.
            self.same([content is not None, paper is not None], [wanted, not wanted])
            self.same([is_source(chart, low, high, content), is_nowhere(chart, low, high, paper)], [wanted, not wanted])
            self.same([source(chart, tuple(low), tuple(high)), nowhere(chart, tuple(low), tuple(high))],
                      [content, paper])
            if wanted:
                self.assertTrue(is_one(chart, low, high, content) and type(content) is list)
            else:
                self.looks(chart, low, high, paper)
        self.assertGreater(min(seen.values()), 30, seen)

    def looks(self, chart, low, high, paper):
        told, lanes = paper
        self.assertTrue(type(paper) is tuple and type(told) is list and type(lanes) is list)
        self.assertTrue(oracle.is_ladder(tables(chart), high, told))
        for ceiling, lane in zip(told[-1], lanes, strict=True):
            self.assertLess(oracle.at_ceiling(tables(chart), ceiling)[lane], low[lane])

    def test_by_plain_looking(self):
        seen = {True: 0, False: 0}
        for chart, low, high, draw in drawn_sources(160, 2, 2):
            if any(abs(number) > 3 for lots in tables(chart) for lot in lots for _, number in lot):
                continue
            found = [content for content in oracle.boxed(chart.lanes, -9, 9) if is_one(chart, low, high, content)]
            seen[bool(found)] += 1
            self.same(source(chart, low, high) is not None, bool(found))
            for content in oracle.boxed(chart.lanes, -3, 3):
                self.same(is_source(chart, low, high, content), content in found)
            many = how_many(chart, low, high)
            if many is not None:
                self.same(many, len(found))
            else:
                self.assertGreater(len(found), 0)
        self.assertGreater(min(seen.values()), 10, seen)

    def test_exact_contents(self):
        for families, draw in drawn_charts(60, 3, 4):
            chart = Map(families)
            for most in (3, HUGE):
                content = draw.content(chart.lanes, most)
                told = chart(content)
                self.same([is_source(chart, told, told, content), chart(source(chart, told, told))], [True, told])

    def test_without_bounds(self):
        for chart in (SAME, CHART, Map.same(12), -MORE):
            none = [None] * chart.lanes
            self.same([len(source(chart, none, none)), nowhere(chart, none, none), boxes(chart, none, none)],
                      [chart.lanes, None, [(none, none)]])
            self.same(how_many(chart, none, none), None)
        low = Map([Family([((0, 0),), ((1, HUGE),)]), Family([((1, -HUGE),)])])
        for bounds in (([HUGE, None], NONE), ([HUGE, HUGE], NONE), (NONE, [-HUGE, None]), ([-5, None], [None, HUGE]),
                       ([HUGE, -HUGE], [HUGE, None])):
            self.assertTrue(is_one(low, *bounds, source(low, *bounds)))

    def test_judged(self):
        for value, wanted in (([3, 3], True), ((3, 3), True), ([9, 3], True), ([2, 3], False), ([3, 4], False),
                              ([3], False),
                              ([3, 3, 3], False), ([3, None], False), ([True, 3], False), (["3", 3], False),
                              ({0: 3}, False)):
            self.same(is_source(CHART, [5, 3], [5, 3], value), wanted)
        for value in NO_PAPERS + NOT_CONTENTS_OF_TWO:
            self.same(is_source(SAME, NONE, NONE, value), repr(value) in ("[0, 0]", "(0, 0)", "[1, 2]"))
            self.same(is_source(SAME, [1, None], NONE, value), repr(value) == "[1, 2]")
            self.same(is_source(SAME, NONE, [None, 1], value), repr(value) in ("[0, 0]", "(0, 0)"))


class Boxes(Case):
    def test_drawn_ones(self):
        for chart, low, high, draw in drawn_sources(200, 3, 4):
            found = boxes(chart, low, high)
            wanted = plain_boxes(chart, low, high)
            self.same(found, sorted(wanted, key=lambda pair: (oracle.key(pair[0]), oracle.key(pair[1]))))
            self.same(boxes(chart, tuple(low), tuple(high)), found)
            for foot, head in found:
                self.assertTrue(foot in feet(chart, low) and head in heads(chart, high))
            for content in [draw.content(chart.lanes, 5) for _ in range(12)] + [source(chart, low,
                                                                                       high) or [0] * chart.lanes]:
                self.same(is_one(chart, low, high, content),
                          any(oracle.above(content, foot) and oracle.below(content, head) for foot, head in found))
            self.none_within_another(found)
            endless = any(None in foot or None in head for foot, head in found)
            self.same(how_many(chart, low, high) is None, endless)

    def none_within_another(self, found):
        for foot, head in found:
            for other_foot, other_head in found:
                if (foot, head) != (other_foot, other_head):
                    self.assertFalse(oracle.above(foot, other_foot) and oracle.below(head, other_head))

    def test_counted_by_plain_looking(self):
        seen = {}
        for families, draw in drawn_charts(300, 4, 3):
            chart = Map([family & Family([((lane, 0),)]) for lane, family in enumerate(families)])
            low, high = [draw.number(2) - 3 for _ in families], [draw.number(2) + 2 for _ in families]
            chart = Map([family | Family([((lane, -2),)]) for lane, family in enumerate(chart.families())])
            found = boxes(chart, low, high)
            if any(None in foot or None in head for foot, head in found) or len(found) > 10:
                continue
            least = min([min(foot) for foot, _ in found], default=0)
            most = max([max(head) for _, head in found], default=0)
            if (most - least + 1) ** chart.lanes > 5000:
                continue
            contents = [content for content in oracle.boxed(chart.lanes, least, most) if is_one(chart, low, high,
                                                                                                content)]
            self.same(how_many(chart, low, high), len(contents))
            seen[len(found)] = seen.get(len(found), 0) + 1
        self.assertTrue({1, 2, 3}.issubset(seen), seen)

    def test_long_counts(self):
        self.same(how_many(Map.same(12), [-HUGE] * 12, [HUGE] * 12), math.prod([2 * HUGE + 1] * 12))
        self.same(how_many(SAME, [0, 5], [3, 9]), 20)
        self.same([how_many(SAME, [0, 5], [3, 4]), how_many(SAME, [0, None], [3, 4]),
                   how_many(SAME, [0, 5], [None, 5])],
                  [0, None, None])
        self.same([how_many(Map.same(1), [4], [4]), boxes(Map.same(1), [4], [3])], [1, []])

    def test_ten_boxes_and_more(self):
        for many in (1, 2, 9, 10):
            chart, low, high = stairs(many)
            self.same(len(boxes(chart, low, high)), many)
            # The boxes have all contents from -99 on below the steps; each column of one lane is counted by itself.
            columns = [max([number + 100 for number in range(many) if own <= -number], default=0) for own in range(-99,
                                                                                                                   1)]
            self.same(how_many(chart, low, high), sum(columns))
        for many in (11, 12, 60):
            chart, low, high = stairs(many)
            self.same(len(boxes(chart, low, high)), many)
            self.fails(TooMany, {"what": "boxes", "limit": 10}, how_many, chart, low, high)
            # Where sources come to no end, more boxes may be.
            self.same(how_many(chart, NONE, high), None)
            self.same(len(boxes(chart, NONE, high)), many)
        chart, low, high = stairs(11)
        self.fails(TooMany, {"what": "boxes", "limit": 10}, how_many, chart, (None, -99), (0, None))

    def test_two_hundred_boxes_and_more(self):
        for steps, wide, many in ((49, 4, 200), (66, 3, 201), (49, 3, 150)):
            turned = -many_boxes(steps, wide)
            low, high = [None] * 3 + [-9000] + [None] * 2, [0, 0, None, None, None, None]
            feet_of, heads_of = feet(turned, low), heads(turned, high)
            self.same([len(feet_of), len(heads_of)], [wide, steps + 1])
            if many <= 200:
                self.same([len(boxes(turned, low, high)), how_many(turned, low, high)], [many, None])
            else:
                self.fails(TooMany, {"what": "boxes", "limit": 200}, boxes, turned, low, high)
                self.fails(TooMany, {"what": "boxes", "limit": 200}, how_many, turned, low, high)

    def test_too_many_rows(self):
        for action in (boxes, how_many):
            self.fails(TooMany, ROWS, action, -MORE, SIX, FLOOR)
            self.fails(TooMany, ROWS, action, MORE, FLOOR, SIX)
            self.fails(TooMany, ROWS, action, -MORE, [HUGE] * 6, FLOOR)
        for action in (source, nowhere):
            self.fails(TooMany, ROWS, action, -MORE, SIX, FLOOR)
            self.fails(TooMany, ROWS, action, -MORE, SIX, [0, 0, 0, 0, None, None])
            # Of the floor's feet there may be as many as there are.
            self.assertEqual(action(MORE, FLOOR, SIX) is None, action is nowhere)
        self.fails(TooMany, ROWS, fitting_source, -MORE, SIX, FLOOR, Spans(6))
        self.same(len(boxes(-TWO_HUNDRED, SIX, FLOOR)), 200)
        self.same([is_source(-MORE, SIX, FLOOR, [-99] * 6), is_nowhere(-MORE, SIX, FLOOR, None)], [True, False])


def many_boxes(steps, wide):
    """A map whose turned one has steps + 1 heads of its first two lanes, and feet of its fourth one by themselves."""
    own = antichain(steps)
    apart = Family([((2 + lane, 0),) for lane in range(wide)])
    return Map([Family(own[::2]), Family(own[1::2]), apart, apart, apart, apart])


class Nowhere(Case):
    def test_small_ones(self):
        self.same(nowhere(CHART, [6, 3], [6, 3]), ([[[None, 4], [4, None]], [[None, 3]]], [0]))
        own = ladder(CHART, [6, 3])
        for value, wanted in (
            ((own, [0]), True), ((tuple(own), (0,)), True), ([own, [0]], False), ((own, [1]), False),
            ((own, []), False),
            ((own, [0, 0]), False), ((own, [False]), False), ((own, [None]), False), ((own, [2]), False),
            ((own, [-2]), False), ((own, {0: 0}), False), ((own, 0), False), ((own,), False), ((own, [0], 0), False),
            ((own[:1], [0]), False), (([own[0], []], []), False), (([own[0], [[None, 3], [9, 3]]], [0, 0]), True),
            (([own[0], [[None, 4]]], [0]), False), (([own[0], [[None, 3], NONE]], [0, 0]), False),
            (([[[None, 4]], [[None, 3]]], [0]), False), (([own[0], [[3, 3], [None, 3]]], [0, 0]), True),
            (([own[0], [[3, 3], [None, 3]]], [0]), False), ((own, ["0"]), False), ((own, [[0]]), False),
        ):
            self.same(is_nowhere(CHART, [6, 3], [6, 3], value), wanted)
        # The lane must have a number in the floor, and the map must tell a lesser one.
        self.same([is_nowhere(CHART, [None, 3], [6, 3], (own, [0])), is_nowhere(CHART, [5, 3], [6, 3], (own, [0])),
                   is_nowhere(CHART, [6, 4], [6, 3], (own, [1]))], [False, False, True])

    def test_any_value(self):
        own = ladder(CHART, [6, 3])
        for value in NO_PAPERS:
            self.same([is_nowhere(CHART, [6, 3], [6, 3], value), is_nowhere(CHART, [6, 3], [6, 3], (value, [0])),
                       is_nowhere(SAME, NONE, NONE, value)], [False] * 3)
            self.same(is_nowhere(CHART, [6, 3], [6, 3], (own, value)), repr(value) in ("[0]", "(0,)"))

    def test_one_lane_otherwise_in_drawn_ones(self):
        seen = {True: 0, False: 0}
        for chart, low, high, draw in drawn_sources(200, 3, 4):
            paper = nowhere(chart, low, high)
            if paper is None:
                # No other lanes for the own ladder either.
                own = ladder(chart, high)
                self.same(is_nowhere(chart, low, high, (own, [draw.below(chart.lanes) for _ in own[-1]])), False)
                continue
            told, lanes = paper
            for place in range(len(lanes)):
                at = oracle.at_ceiling(tables(chart), told[-1][place])
                for lane in range(-1, chart.lanes + 1):
                    short = lane in range(chart.lanes) and None not in (low[lane], at[lane]) and at[lane] < low[lane]
                    seen[short] += 1
                    self.same(is_nowhere(chart, low, high, (told, lanes[:place] + [lane] + lanes[place + 1:])), short)
        self.assertGreater(min(seen.values()), 40, seen)


class Fitting(Case):
    def test_drawn_ones(self):
        seen = {}
        for chart, low, high, draw in drawn_sources(250, 3, 4):
            told = draw.differences(chart.lanes, 1 + draw.below(3), 3)
            if span_oracle.has_ring(told, chart.lanes):
                self.fails(NothingFits, {}, fitting_source, chart, low, high, Spans(chart.lanes, told))
                continue
            found = fitting_source(chart, low, high, Spans(chart.lanes, told))
            wanted = any(self.reaches(chart, low, span_oracle.summit(told, head)) for head in heads(chart, high))
            self.same(found is not None, wanted)
            if wanted:
                self.assertTrue(is_one(chart, low, high, found) and span_oracle.fits(told, found))
                self.assertIs(type(found), list)
            plain = source(chart, low, high) is not None
            self.assertTrue(plain or not wanted)
            seen[plain, wanted] = seen.get((plain, wanted), 0) + 1
        self.assertEqual(sorted(seen), [(False, False), (True, False), (True, True)])

    def reaches(self, chart, low, row):
        at = oracle.at_ceiling(tables(chart), row)
        return all(least is None or told is None or told >= least for least, told in zip(low, at))

    def test_by_plain_looking(self):
        seen = {True: 0, False: 0}
        for chart, low, high, draw in drawn_sources(200, 2, 2):
            if any(abs(number) > 3 for lots in tables(chart) for lot in lots for _, number in lot):
                continue
            told = draw.differences(chart.lanes, 2, 3, 0)
            found = any(is_one(chart, low, high, content) and span_oracle.fits(told, content)
                        for content in oracle.boxed(chart.lanes, -12, 12))
            seen[found] += 1
            self.same(fitting_source(chart, low, high, Spans(chart.lanes, told)) is not None, found)
        self.assertGreater(min(seen.values()), 10, seen)

    def test_small_ones(self):
        self.same(fitting_source(CHART, [5, 3], [5, 3], Spans(2, [(0, 1, 0)])), [3, 3])
        self.same(fitting_source(CHART, [5, 3], [5, 3], Spans(2, [(0, 1, -1)])), None)
        content = fitting_source(chart=CHART, low=(5, 3), high=(5, 3), spans=Spans(2, [(1, 0, -100)]))
        self.same([content[1], content[0] >= 103], [3, True])
        # Another head than the first one.
        both = Map([Family([((0, 0),), ((1, 0),)]), Family([((1, 0),), ((0, 0),)])])
        self.same([heads(both, [0, None]), fitting_source(both, [0, None], [0, None], Spans(2, [(1, 0, -5)]))[1]],
                  [[[None, 0], [0, None]], 0])
        self.same(fitting_source(both, [0, None], [0, None], Spans(2, [(0, 1, -5)]))[0], 0)

    def test_sequence_of_errors(self):
        for value in NOT_ROWS_OF_TWO:
            self.fails(InvalidRow, {"value": value}, fitting_source, SAME, value, value, EMPTY)
            self.fails(InvalidRow, {"value": value}, fitting_source, SAME, NONE, value, Spans(3))
        for lanes in (1, 3, 12):
            self.fails(OtherLanes, {"one": lanes, "other": 2}, fitting_source, SAME, NONE, NONE, Spans(lanes))
        self.fails(OtherLanes, {"one": 2, "other": 6}, fitting_source, -MORE, SIX, FLOOR, EMPTY)
        self.fails(NothingFits, {}, fitting_source, SAME, NONE, NONE, EMPTY)
        self.fails(NothingFits, {}, fitting_source, -MORE, SIX, FLOOR, Spans(6, [(0, 1, -1), (1, 0, 0)]))


class Errors(Case):
    def test_wrong_rows(self):
        for value in NOT_ROWS_OF_TWO:
            for action in (source, boxes, how_many, nowhere, lambda chart, low, high: is_source(chart, low, high, None),
                           lambda chart, low, high: is_nowhere(chart, low, high, None)):
                self.fails(InvalidRow, {"value": value}, action, SAME, value, [0, 0])
                self.fails(InvalidRow, {"value": value}, action, SAME, [0, None], value)
                # low ahead of high.
                self.fails(InvalidRow, {"value": value}, action, SAME, value, "high")
        for action in (source, boxes, how_many, nowhere):
            self.fails(InvalidRow, {"value": [0]}, action, -MORE, [0], FLOOR)

    def test_changed_afterwards(self):
        found = boxes(CHART, [5, 3], [5, 3])
        found[0][0].append(1)
        found[0][1].append(2)
        paper = nowhere(CHART, [6, 3], [6, 3])
        paper[0][0][0].append(7)
        paper[1].append(0)
        self.same([boxes(CHART, [5, 3], [5, 3]), nowhere(CHART, [6, 3], [6, 3])[1]], [[([3, 3], [None, 3])], [0]])
        # Boxes with the same foot have it in lists of their own.
        both = boxes(Map([Family([((0, 0),), ((1, 0),)])] * 2), NONE, [3, None])
        both[0][0].append("spoiled")
        self.same(both[1], (NONE, [3, None]))

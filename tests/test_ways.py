"""lanelots.spans: within, ways, rings, fitting contents, needless differences, summits (points 42 and 43)."""

from lanelots.errors import InvalidLane, InvalidNumber, InvalidRow, NothingFits
from lanelots.families import Family
from lanelots.spans import Spans, fitting, is_ring, lean, lifted, needless, ring, sum_of, summit, way, within
from tests import lot_oracle
from tests import span_oracle as oracle
from tests.helpers import (
    HUGE, NO_PAPERS, NOT_COUNTS, NOT_INTEGERS, NOT_LANES_OF_TWO, NOT_ROWS_OF_TWO, Case,
)
from tests.test_spans import HELD, NOTHING, drawn_spans

NONE = Spans(3, NOTHING)


class Rings(Case):
    def test_drawn_ones(self):
        seen = {True: 0, False: 0}
        for lanes, told, _ in drawn_spans(250, 5):
            spans, empty = Spans(lanes, told), oracle.has_ring(told, lanes)
            seen[empty] += 1
            found, content = ring(spans), fitting(spans)
            # Always one of both, and never both.
            self.same([found is not None, content is None], [empty, empty])
            self.same(is_ring(spans, found), empty)
            self.same(content is not None and oracle.fits(told, content), not empty)
            if empty:
                self.assertEqual(type(found), list)
                self.assertTrue(len(found) == len(set(found)) >= 2)
                self.assertLess(oracle.sum_of(told, found + found[:1]), 0)
        self.assertGreater(min(seen.values()), 15, seen)

    def test_long_rings(self):
        around = [(lane, (lane + 1) % 12, 1) for lane in range(11)] + [(11, 0, -11)]
        self.same([ring(Spans(12, around)), fitting(Spans(12, around)) is None], [None, False])
        tight = Spans(12, around[:-1] + [(11, 0, -12)])
        self.same([sorted(ring(tight)), is_ring(tight, ring(tight)), fitting(tight)], [list(range(12)), True, None])
        # A long way that leads to a ring of two lanes, and another one away from it.
        tail = Spans(12, [(lane, lane + 1, -HUGE) for lane in range(11)] + [(6, 5, HUGE - 1)])
        self.same(sorted(ring(tail)), [5, 6])
        for last in range(12):
            pair = Spans(12, [(lane, (lane + 1) % 12, 5) for lane in range(12)] + [(last, (last + 3) % 12, -1),
                                                                                  ((last + 3) % 12, last, 0)])
            self.same(sorted(ring(pair)), sorted([last, (last + 3) % 12]))

    def test_is_ring(self):
        for value, wanted in (([0, 1, 2], True), ([1, 2, 0], True), ((2, 0, 1), True), ([2, 1, 0], False),
                              ([0, 1], False), ([0, 1, 2, 0, 1, 2], False), ([0], False), ([], False), ([0, 2], False),
                              ([0, 1, 3], False), ([False, True, 2], False), ([0, True, 2], False),
                              ([0, 1, 2, 3], False),
                              ([0, 1, None], False), ([0, 1, "2"], False), ([0, 1, [2]], False), ({0: 1}, False),
                              ([0, 1, -1], False), ([0, 1, 2, 0], False)):
            self.same(is_ring(NONE, value), wanted)
        for value in NO_PAPERS:
            self.same([is_ring(NONE, value), is_ring(HELD, value), is_ring(Spans(1), value)], [False] * 3)

    def test_sum_below_zero(self):
        for number, wanted in ((-1, True), (0, False), (1, False), (-HUGE, True), (HUGE, False)):
            spans = Spans(2, [(0, 1, 4), (1, 0, number - 4)])
            self.same([is_ring(spans, [0, 1]), is_ring(spans, [1, 0])], [wanted, wanted])


class Within(Case):
    def test_small_ones(self):
        less, more = Spans(2, [(0, 1, 2)]), Spans(2, [(0, 1, 3)])
        empty = Spans(2, [(0, 1, -1), (1, 0, 0)])
        self.same([within(less, more), within(more, less), within(less, less), within(less, Spans(2))],
                  [True, False, True, True])
        self.same([within(Spans(2), less), within(Spans(2), Spans(2)), within(Spans(1), Spans(1))], [False, True, True])
        self.same([within(empty, less), within(empty, empty), within(less, empty), within(Spans(2), empty)],
                  [True, True, False, False])
        self.same([within(HELD, HELD.closed()), within(HELD.closed(), HELD)], [True, True])
        self.same([within(HELD, Spans(3, [(0, 2, number)])) for number in (0, 1, 2)], [False, True, True])
        self.same(within(spans=HELD, other=Spans(3, [(2, 0, HUGE)])), False)

    def test_by_plain_looking(self):
        seen = {True: 0, False: 0}
        for lanes, told, draw in drawn_spans(150, 3, 2):
            small = [(i, j, number % 4 - 1) for i, j, number in told]
            more = draw.differences(lanes, 1 + draw.below(2), 4, 0)
            wanted = all(oracle.fits(more, content) for content in oracle.boxed(lanes, 14) if
                         oracle.fits(small, content))
            seen[wanted] += 1
            self.same(within(Spans(lanes, small), Spans(lanes, more)), wanted)
            # Both equal exactly if each is within the other one.
            ones, others = Spans(lanes, small), Spans(lanes, more)
            self.same(ones == others, within(ones, others) and within(others, ones))
        self.assertGreater(min(seen.values()), 20, seen)


class Sums(Case):
    def test_sums(self):
        for told, wanted in (([0, 1], 2), ((0, 1, 2), 1), ([0, 2], 5), ([0], 0), ([2], 0), ([], None), ([1, 0], None),
                             ([0, 1, 2, 0], None), ([0, 0], None), ([0, 3], None), ([3], None), ([0, True], None),
                             ([False], None), ([0, None], None), ([[0]], None), (["0", "1"], None), ([-1], None),
                             (0, None), ({0: 1, 1: 2}, None), ([0, 1, 0], None)):
            self.same(sum_of(HELD, told), wanted)
        self.same(sum_of(spans=HELD, way=[1, 2]), -1)
        for value in NO_PAPERS:
            self.same(sum_of(HELD, value), 0 if repr(value) in ("[0]", "(0,)") else None)
        for value in NO_PAPERS:
            self.same(sum_of(Spans(2), [value]), 0 if type(value) is int and value in (0, 1) else None)

    def test_where_nothing_fits(self):
        self.same([sum_of(NONE, told) for told in ([0, 1, 2, 0], [0, 1, 2, 0, 1, 2, 0, 1], [1], [1, 0])],
                  [-1, -1 - 1 + 1, 0, None])
        self.same(sum_of(NONE, [0, 1, 2] * 300), 300 * -2 + 299)

    def test_sums_bound_what_fits(self):
        for lanes, told, draw in drawn_spans(100, 4, 2):
            spans = Spans(lanes, told)
            for _ in range(10):
                lane_way = [draw.below(lanes) for _ in range(1 + draw.below(4))]
                total = sum_of(spans, lane_way)
                self.same(total, oracle.sum_of(told, lane_way))
                content = fitting(spans)
                if total is not None and content is not None:
                    self.assertLessEqual(content[lane_way[0]] - content[lane_way[-1]], total)


class Ways(Case):
    def test_drawn_ones(self):
        for lanes, told, _ in drawn_spans(120, 5):
            if oracle.has_ring(told, lanes):
                self.fails(NothingFits, {}, way, Spans(lanes, told), 0, 0)
                continue
            spans = Spans(lanes, told)
            for one in range(lanes):
                for other in range(lanes):
                    sums = oracle.ways(told, one, other)
                    found = way(spans, one, other)
                    self.same(found is None, not sums)
                    if sums:
                        self.same([found[0], found[-1], type(found)], [one, other, list])
                        self.same([sum_of(spans, found), oracle.sum_of(told, found)], [min(sums), min(sums)])

    def test_small_ones(self):
        self.same([way(HELD, 0, 2), way(HELD, 0, 1), way(HELD, 1, 1), way(HELD, 2, 0), way(HELD, one=1, other=2)],
                  [[0, 1, 2], [0, 1], [1], None, [1, 2]])
        # A ring whose sum is 0 is no hindrance.
        zero = Spans(3, [(0, 1, 0), (1, 0, 0), (1, 2, 3), (0, 2, 3)])
        self.same([sum_of(zero, way(zero, 0, 2)), sum_of(zero, way(zero, 1, 2)), way(zero, 0, 0)], [3, 3, [0]])
        chain = Spans(12, [(lane, lane + 1, -HUGE) for lane in range(11)])
        self.same([way(chain, 0, 11), way(chain, 11, 0)], [list(range(12)), None])

    def test_errors(self):
        for value in NOT_LANES_OF_TWO:
            self.fails(InvalidLane, {"value": value}, way, Spans(2), value, None)
            self.fails(InvalidLane, {"value": value}, way, Spans(2), 1, value)
        self.fails(InvalidLane, {"value": 3}, way, NONE, 3, 9)
        self.fails(InvalidLane, {"value": 9}, way, NONE, 2, 9)
        for one, other in ((0, 0), (0, 1), (2, 1)):
            self.fails(NothingFits, {}, way, NONE, one, other)


class Needless(Case):
    def test_small_ones(self):
        self.same([needless(HELD), lean(HELD)], [[(0, 2, 5)], Spans(3, [(0, 1, 2), (1, 2, -1)])])
        self.same(needless(Spans(3, [(0, 1, 2), (1, 2, -1), (0, 2, 1)])), [(0, 2, 1)])
        self.same(needless(Spans(3, [(0, 1, 2), (1, 2, -1), (0, 2, 0)])), [])
        self.same([needless(Spans(1)), needless(Spans(12)), lean(Spans(2)).differences()], [[], [], []])

    def test_each_given_by_the_others_but_not_all(self):
        # Round three lanes that are as great: each is given by two others; the last ones go first.
        equal = Spans(3, [(i, j, 0) for i in range(3) for j in range(3) if i != j])
        self.same(needless(equal), equal.differences())
        self.same(lean(equal).differences(), [(0, 1, 0), (0, 2, 0), (1, 0, 0), (2, 0, 0)])
        self.same(lean(equal) == equal, True)

    def left(self, spans):
        """What is left by the document's own words."""
        left = spans.differences()
        for own in reversed(spans.differences()):
            others = [other for other in left if other != own]
            if min(oracle.ways(others, own[0], own[1]), default=HUGE * HUGE) <= own[2]:
                left = others
        return left

    def test_drawn_ones(self):
        for lanes, told, _ in drawn_spans(120, 5):
            spans = Spans(lanes, told)
            if oracle.has_ring(told, lanes):
                self.fails(NothingFits, {}, needless, spans)
                self.fails(NothingFits, {}, lean, spans)
                continue
            listed = spans.differences()
            wanted = []
            for own in listed:
                others = [other for other in listed if other != own]
                if min(oracle.ways(others, own[0], own[1]), default=HUGE * HUGE) <= own[2]:
                    wanted.append(own)
            self.same(needless(spans), wanted)
            self.same(lean(spans).differences(), self.left(spans))
            self.same([lean(spans) == spans, needless(lean(spans))], [True, []])


class Summits(Case):
    def test_small_ones(self):
        self.same([summit(HELD, [None, 0, None]), summit(HELD, (None, None, 3))], [[2, 0, None], [4, 2, 3]])
        self.same([summit(HELD, [None] * 3), summit(Spans(1), [5]), summit(Spans(1), [None])],
                  [[None] * 3, [5], [None]])
        self.same(summit(spans=HELD, row=[0, 0, 0]), [0, -1, 0])
        self.same(summit(Spans(12, [(0, 11, -1)]), [None] * 11 + [HUGE]), [HUGE - 1] + [None] * 10 + [HUGE])

    def test_drawn_ones(self):
        for lanes, told, draw in drawn_spans(150, 4):
            spans, row = Spans(lanes, told), draw.row(lanes, draw.pick((2, 9, HUGE)))
            if oracle.has_ring(told, lanes):
                self.fails(NothingFits, {}, summit, spans, row)
                continue
            found = summit(spans, row)
            self.same([found, summit(spans, tuple(row)), summit(spans, found)],
                      [oracle.summit(told, row), found, found])
            for number in (-HUGE, 0, 7, HUGE):
                content = lifted(spans, row, number)
                self.assertTrue(oracle.fits(told, content))
                self.assertEqual(type(content), list)
                for own, most in zip(content, found):
                    self.assertTrue(own >= number if most is None else own == most)

    def test_by_plain_looking(self):
        for lanes, told, draw in drawn_spans(120, 3):
            small = [(i, j, number % 5 - 1) for i, j, number in told]
            if oracle.has_ring(small, lanes):
                continue
            row = draw.row(lanes, 2)
            found = summit(Spans(lanes, small), row)
            contents = [content for base in oracle.boxed(lanes, 7) for more in range(-9, 4)
                        for content in [[number + more for number in base]] if oracle.fits(small, content)]
            below = [content for content in contents if lies_below(content, row)]
            # What fits lies below the row exactly if below the summit, and comes up to it.
            self.assertEqual(below, [content for content in contents if lies_below(content, found)])
            for lane in range(lanes):
                if found[lane] is not None:
                    self.assertEqual(max(content[lane] for content in below), found[lane])
            family = draw.family(3, lanes, 2)
            most = oracle.value_at(family.lots(), found)
            if most is not None:
                self.assertEqual(max(lot_oracle.value(family.lots(), content) for content in below), most)

    def test_errors(self):
        two = Spans(2)
        for value in NOT_ROWS_OF_TWO:
            self.fails(InvalidRow, {"value": value}, summit, two, value)
            self.fails(InvalidRow, {"value": value}, lifted, two, value, None)
        for value in NOT_INTEGERS:
            self.fails(InvalidNumber, {"value": value}, lifted, two, [None, 1], value)
            self.fails(InvalidNumber, {"value": value}, lifted, NONE, [None, 1, 2], value)
        self.fails(InvalidRow, {"value": [1]}, summit, NONE, [1])
        self.fails(InvalidRow, {"value": [1]}, lifted, NONE, [1], None)
        for row in ([None] * 3, [0, 1, 2], (None, None, 5)):
            self.fails(NothingFits, {}, summit, NONE, row)
            self.fails(NothingFits, {}, lifted, NONE, row, 0)

    def test_what_tells_of_spans_that_nothing_fits(self):
        self.same([fitting(NONE), is_ring(NONE, ring(NONE)), within(NONE, HELD), within(HELD, NONE)],
                  [None, True, True, False])
        for value in NOT_COUNTS:
            self.same([is_ring(NONE, value), sum_of(NONE, value)],
                      [False, 0 if repr(value) in ("[1]", "(1,)") else None])
        for action in (needless, lean):
            self.fails(NothingFits, {}, action, NONE)

    def test_lanes_without_a_number_stand_as_high_as_they_must(self):
        # Lane 0 may be at most 4 above lane 1, which has no number in the summit of a row of lane 0 alone.
        spans = Spans(2, [(0, 1, 4)])
        for number in (0, -HUGE, 95, 96, 97):
            content = lifted(spans, [100, None], number)
            self.assertTrue(content[0] == 100 and content[1] >= max(96, number))
            self.assertIn(content, spans)
        self.same(Family([((0, 0),)])(lifted(spans, [None, 3], 50)), 7)


def lies_below(content, row):
    return all(most is None or own <= most for own, most in zip(content, row))

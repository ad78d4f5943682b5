"""lanelots.gaps: spans behind a map, led and kept spans, slips, balls, maps alike where spans fit (46 to 49)."""

from lanelots.basics import raised
from lanelots.errors import NothingFits, OtherLanes
from lanelots.families import Family
from lanelots.gaps import (
    above, alike_where, at_most, behind, gap, is_slip, is_unlike_where, keeps, leads, slip, unlike_where,
)
from lanelots.maps import Map
from lanelots.nets import Net
from lanelots.spans import Spans, fitting, within
from lanelots.told import map_of
from tests import span_oracle as oracle
from tests.helpers import HUGE, NO_PAPERS, NOT_CONTENTS_OF_TWO, Case, antichain
from tests.test_spans import HELD, NOTHING, drawn_spans

NONE = Spans(3, NOTHING)
SAME = Map.same(3)


def drawn_maps(times, lanes=3, small=False):
    """Spans that something fits, by their differences, with two maps of as many lanes."""
    for wide, told, draw in drawn_spans(times, lanes):
        if small:
            told = [(i, j, number % 4 - 1) for i, j, number in told]
        most = draw.pick((0, 2)) if small else draw.pick((0, 2, 9, HUGE))
        if not oracle.has_ring(told, wide):
            yield wide, told, draw.chart(3, wide, most), draw.chart(3, wide, most), draw


def some_fitting(told, lanes, most=9):
    return [list(content) for content in oracle.boxed(lanes, most) if oracle.fits(told, content)]


class Behind(Case):
    def test_small_ones(self):
        self.same(behind(HELD, SAME), HELD.closed())
        self.same(behind(HELD, SAME).differences(), HELD.closed().differences())
        low = map_of(Net(2, [("low", 0, 1)]))
        self.same(behind(Spans(2), low).differences(), [(0, 1, 0)])
        self.same(behind(Spans(2, [(0, 1, -3), (1, 0, 5)]), low).differences(), [(0, 1, -3), (1, 0, 5)])
        self.same(behind(Spans(2, [(1, 0, -3)]), low).differences(), [(0, 1, 0), (1, 0, 0)])
        self.same(behind(spans=Spans(1), chart=Map([Family([((0, 5),)])])), Spans(1))
        twelve = map_of(Net(12, [("low", 0, lane) for lane in range(1, 12)]))
        self.same(behind(Spans(12), twelve).differences(), [(0, lane, 0) for lane in range(1, 12)])

    def test_drawn_ones(self):
        for lanes, told, chart, second, draw in drawn_maps(100, 4):
            spans = Spans(lanes, told)
            found = behind(spans, chart)
            lots = [family.lots() for family in chart.families()]
            wanted = [(i, j, oracle.gap(told, lanes, lots[i],
                                        lots[j])) for i in range(lanes) for j in range(lanes) if i != j]
            self.same(found.differences(), [own for own in wanted if own[2] is not None])
            # Closed; and what fits comes to what fits behind.
            self.same(found.closed().differences(), found.differences())
            for number in (0, 7, HUGE):
                content = raised(fitting(spans), number)
                self.assertIn(chart(content), found)
            # Behind two maps at once they are as strong as one behind the other, or stronger.
            self.same(within(behind(spans, chart + second), behind(found, second)), True)

    def test_by_plain_looking(self):
        for lanes, told, chart, _, _ in drawn_maps(60, 3, small=True):
            found = behind(Spans(lanes, told), chart)
            contents = [chart(content) for content in some_fitting(told, lanes, 16)]
            for content in contents:
                self.assertIn(content, found)
            for i, j, number in found.differences():
                self.assertEqual(max(content[i] - content[j] for content in contents), number)

    def test_not_all_at_one(self):
        # Lanes 0 and 1 each come 3 above lane 2, but never both.
        chart = Map([Family([((0, 0), (2, 0))]), Family([((1, 0), (2, 0))]), Family([((2, 0),)])])
        spans = Spans(3, [(0, 2, 3), (1, 2, 3)])
        self.same(behind(spans, chart).differences(),
                  [(0, 1, 3), (0, 2, 3), (1, 0, 3), (1, 2, 3), (2, 0, 0), (2, 1, 0)])


class Led(Case):
    def test_small_ones(self):
        swap = map_of(Net(3, [("copy", 2, 0), ("copy", 0, 1), ("copy", 1, 2)]))
        low = map_of(Net(3, [("low", 0, 1)]))
        self.same([leads(HELD, SAME, HELD), keeps(HELD, SAME), leads(HELD, SAME, Spans(3)),
                   leads(Spans(3), SAME, HELD)],
                  [True, True, True, False])
        self.same([leads(HELD, low, Spans(3, [(0, 1, 0)])), leads(HELD, low, Spans(3, [(0, 1, -1)])),
                   leads(HELD, swap, Spans(3, [(1, 0, 2)])), leads(HELD, swap, Spans(3, [(0, 1, 2)])),
                   keeps(Spans(3, [(0, 1, 0)]), low)], [True, False, True, False, True])
        self.same([leads(spans=HELD, chart=SAME, other=NONE), slip(spans=HELD, chart=SAME, other=HELD)], [False, None])
        self.assertIn(slip(HELD, SAME, NONE), HELD)

    def test_drawn_ones(self):
        seen = {True: 0, False: 0}
        for lanes, told, chart, _, draw in drawn_maps(150, 4):
            spans = Spans(lanes, told)
            closed = behind(spans, chart)
            others = [Spans(lanes, draw.differences(lanes, 2, 6, 0)), closed,
                      Spans(lanes, draw.differences(lanes, 3, 2)),
                      Spans(lanes, [(i, j, number - 1) for i, j,
                                    number in closed.differences()[:1]]), Spans(lanes), spans]
            for other in others:
                wanted = within(closed, other)
                seen[wanted] += 1
                found = slip(spans, chart, other)
                self.same([leads(spans, chart, other), found is None, is_slip(spans, chart, other, found)],
                          [wanted, wanted, not wanted])
                if not wanted:
                    self.assertTrue(oracle.fits(told, found) and not oracle.fits(other.differences(), chart(found)))
                    self.assertIs(type(found), list)
            self.same(keeps(spans, chart), within(closed, spans))
        self.assertGreater(min(seen.values()), 100, seen)

    def test_by_plain_looking(self):
        seen = {True: 0, False: 0}
        for lanes, told, chart, _, draw in drawn_maps(100, 3, small=True):
            more = draw.differences(lanes, 1 + draw.below(2), 3, 0)
            contents = some_fitting(told, lanes, 16)
            wanted = all(oracle.fits(more, chart(content)) for content in contents)
            seen[wanted] += 1
            spans, other = Spans(lanes, told), Spans(lanes, more)
            self.same(leads(spans, chart, other), wanted)
            for content in contents[:200]:
                self.same(is_slip(spans, chart, other, content), not oracle.fits(more, chart(content)))
                self.same(is_slip(spans, chart, other, raised(content, 1)), not oracle.fits(more, chart(content)))
        self.assertGreater(min(seen.values()), 15, seen)

    def test_kept_by_any_number_of_rounds(self):
        seen = 0
        for lanes, told, chart, _, _ in drawn_maps(100, 3, small=True):
            spans = Spans(lanes, told)
            if keeps(spans, chart):
                seen += 1
                self.same([keeps(spans, chart * many) for many in (0, 2, 3)], [True] * 3)
        self.assertGreater(seen, 10)

    def test_papers_of_kept_spans(self):
        for lanes, told, chart, _, _ in drawn_maps(60, 3, small=True):
            spans = Spans(lanes, told)
            papers = [at_most(spans, chart[i], chart[j], number) for i, j, number in spans.differences()]
            self.same(keeps(spans, chart), None not in papers)

    def test_slips(self):
        low, other = map_of(Net(3, [("low", 0, 1)])), Spans(3, [(0, 1, -1)])
        for content, wanted in (([0, 0, 1], True), ((0, 0, 1), True), ([3, 0, 1], False), ([-1, 0, 1], False),
                                ([2, 0, 1], True),
                                ([0, 0, 1, 0], False), ([0, 0], False), ([False, 0, 1], False), ([0, 0, True], False),
                                ([0, None, 1], False), ("001", False)):
            self.same(is_slip(HELD, low, other, content), wanted)
        # All that fits goes somewhere that fits nothing.
        self.same([is_slip(HELD, low, NONE, content) for content in ([0, 0, 1], [3, 0, 1])], [True, False])
        for value in NO_PAPERS + NOT_CONTENTS_OF_TWO:
            self.same(is_slip(Spans(2), Map.same(2), Spans(2, [(0, 1, -1)]), value),
                      repr(value) in ("[0, 0]", "(0, 0)"))
            self.same(is_slip(Spans(2), Map.same(2), Spans(2), value), False)


class Balls(Case):
    def test_balls_are_led_into_balls(self):
        for lanes, _, chart, _, draw in drawn_maps(80, 4):
            content = draw.content(lanes, 9)
            for many in (0, 1, 5, HUGE):
                self.same(leads(Spans.ball(content, many), chart, Spans.ball(chart(content), many)), True)

    def test_count_of_zero(self):
        ball = Spans.ball([4, 1, 1], 0)
        low = map_of(Net(3, [("low", 0, 1)]))
        self.same([behind(ball, low) == Spans.ball([1, 1, 1], 0), keeps(ball, low)], [True, False])
        self.same(leads(ball, low, Spans.ball([1, 1, 2], 0)), False)
        self.same(leads(ball, low, Spans.ball([1, 1, 2], 1)), True)


class Alike(Case):
    def test_small_ones(self):
        low, same = map_of(Net(2, [("low", 0, 1)])), Map.same(2)
        self.same([alike_where(Spans(2, [(0, 1, 0)]), low, same), alike_where(Spans(2, [(0, 1, 1)]), low, same),
                   alike_where(Spans(2), low, same), alike_where(Spans(2), low, low)], [True, False, False, True])
        self.same([unlike_where(Spans(2, [(0, 1, 0)]), low, same), unlike_where(spans=Spans(2, [(0, 1, 1), (1, 0, -1)]),
                                                                               chart=low, second=same)[0]], [None, 0])
        # Only a lane behind the first one is unlike, and the second map is the greater one.
        high = map_of(Net(3, [("high", 2, 0)]))
        self.same([unlike_where(HELD, SAME, high)[0], unlike_where(HELD, high, SAME)[0]], [2, 2])
        self.same(alike_where(HELD, map_of(Net(3, [("high", 2, 1)])), SAME), True)

    def test_drawn_ones(self):
        seen = {True: 0, False: 0}
        for lanes, told, chart, second, draw in drawn_maps(150, 3):
            spans = Spans(lanes, told)
            lane = draw.below(lanes)
            others = [second, chart, chart.with_family(lane, chart[lane] & second[lane]),
                      chart.with_family(lane, chart[lane] | second[lane]), chart.with_family(lane, chart[lane] + 1)]
            for other in others:
                gaps = [(gap(spans, chart[own], other[own]),
                         gap(spans, other[own], chart[own])) for own in range(lanes)]
                wanted = all(pair == (0, 0) for pair in gaps)
                seen[wanted] += 1
                found = unlike_where(spans, chart, other)
                self.same([alike_where(spans, chart, other), found is None, alike_where(spans, other, chart),
                           is_unlike_where(spans, chart, other, found)], [wanted, wanted, wanted, not wanted])
                if not wanted:
                    self.same([found[0], type(found), type(found[1])],
                              [[own for own in range(lanes) if gaps[own] != (0, 0)][0], tuple, list])
                    self.assertTrue(oracle.fits(told, found[1]))
                    self.assertNotEqual(chart(found[1])[found[0]], other(found[1])[found[0]])
        self.assertGreater(min(seen.values()), 60, seen)

    def test_by_plain_looking(self):
        seen = {True: 0, False: 0}
        for lanes, told, chart, second, draw in drawn_maps(120, 3, small=True):
            lane = draw.below(lanes)
            other = chart.with_family(lane, chart[lane] & second[lane]) if draw.below(3) else second
            spans, contents = Spans(lanes, told), some_fitting(told, lanes, 16)
            wanted = all(chart(content) == other(content) for content in contents)
            seen[wanted] += 1
            self.same(alike_where(spans, chart, other), wanted)
            for content in contents[:60]:
                for own in range(lanes):
                    self.same(is_unlike_where(spans, chart, other, (own, content)),
                              chart(content)[own] != other(content)[own])
        self.assertGreater(min(seen.values()), 15, seen)

    def test_judged(self):
        low = map_of(Net(3, [("low", 0, 1), ("add", 2, 5)]))
        for value, wanted in (((0, [1, 0, 1]), True), ((0, (1, 0, 1)), True), ((0, [0, 0, 1]), False),
                              ((2, [0, 0, 1]), True),
                              ((1, [1, 0, 1]), False), ((0, [3, 0, 1]), False), ([0, [1, 0, 1]], False), ((0,), False),
                              ((0, [1, 0, 1], 0), False), ((False, [1, 0, 1]), False), ((True, [1, 0, 1]), False),
                              ((3, [1, 0, 1]), False), ((-1, [1, 0, 1]), False), ((None, [1, 0, 1]), False),
                              ((0, [True, 0, 1]), False), ((0, [1, 0]), False), ((0, [1, 0, 1, 0]), False),
                              (([0], [1, 0, 1]), False), ((0, None), False), ((0, {0: 1, 1: 0, 2: 1}), False)):
            self.same(is_unlike_where(HELD, low, SAME, value), wanted)
            self.same(is_unlike_where(HELD, SAME, low, value), wanted)
            self.same(is_unlike_where(HELD, low, low, value), False)
        for value in NO_PAPERS:
            self.same([is_unlike_where(HELD, low, SAME, value), is_unlike_where(HELD, low, SAME, (value, [1, 0, 1])),
                       is_unlike_where(HELD, low, SAME, (0, value))], [False, type(value) is int and value == 0, False])


class Errors(Case):
    ACTIONS = (
        (lambda spans, chart, other, second: behind(spans, chart), ("chart",)),
        (lambda spans, chart, other, second: leads(spans, chart, other), ("chart", "other")),
        (lambda spans, chart, other, second: slip(spans, chart, other), ("chart", "other")),
        (lambda spans, chart, other, second: is_slip(spans, chart, other, None), ("chart", "other")),
        (lambda spans, chart, other, second: keeps(spans, chart), ("chart",)),
        (lambda spans, chart, other, second: alike_where(spans, chart, second), ("chart", "second")),
        (lambda spans, chart, other, second: unlike_where(spans, chart, second), ("chart", "second")),
        (lambda spans, chart, other, second: is_unlike_where(spans, chart, second, None), ("chart", "second")),
    )

    def test_other_lanes(self):
        for action, names in self.ACTIONS:
            for spans in (HELD, NONE):
                given = {"chart": SAME, "other": HELD, "second": SAME}
                for name in names:
                    for lanes in (1, 2, 4, 12):
                        odd = Spans(lanes) if name == "other" else Map.same(lanes)
                        self.fails(OtherLanes, {"one": 3, "other": lanes}, action, spans, **{**given, name: odd})
                # The first one of them that has not as many.
                self.fails(OtherLanes, {"one": 3, "other": 2}, action, spans, Map.same(2), Spans(4), Map.same(5))

    def test_nothing_fits(self):
        for action, _ in self.ACTIONS:
            self.fails(NothingFits, {}, action, NONE, SAME, HELD, SAME)
            self.fails(NothingFits, {}, action, NONE, SAME, NONE, SAME)
            action(HELD, SAME, HELD, SAME)
            action(HELD, SAME, NONE, SAME)

    def test_many_lots(self):
        chart = Map([Family(antichain(60)), Family([((0, 0), (1, 0))])])
        self.same(behind(Spans(2), chart).differences(), [(0, 1, 0), (1, 0, 59)])
        content = above(Spans(2), chart[1], chart[0], 58)
        self.assertGreaterEqual(chart[1](content) - chart[0](content), 59)
        self.same([keeps(Spans(2, [(1, 0, 59)]), chart), keeps(Spans(2, [(0, 1, -1), (1, 0, 59)]), chart)],
                  [True, False])

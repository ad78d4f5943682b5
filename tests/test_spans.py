"""lanelots.spans: the class Spans: which contents fit, closed spans, when two are equal, balls (41, 42, 48)."""

from lanelots.basics import raised
from lanelots.errors import (
    InvalidContent, InvalidDifferences, InvalidLanes, InvalidMany, NothingFits, OtherLanes,
)
from lanelots.families import Family
from lanelots.maps import Map
from lanelots.nets import Net
from lanelots.spans import Spans, lean, ring, summit, within
from tests import span_oracle as oracle
from tests.helpers import (
    HUGE, NO_PAPERS, NOT_CONTENTS_OF_TWO, NOT_COUNTS, NOT_INTEGERS, NOT_LISTS, Case, Draw, drawn_contents,
)

HELD = Spans(3, [(0, 1, 2), (1, 2, -1), (0, 2, 5)])
NOTHING = [(0, 1, 1), (1, 2, -3), (2, 0, 1)]
NOT_DIFFERENCES = (
    None, True, 0, "", "012", (), [], {}, (0,), (0, 1), (0, 1, 2, 3), [0, 1, 2], (0, 0, 1), (1, 1, 0), (0, 3, 1),
    (3, 0, 1), (-1, 0, 1), (0, -1, 1), (0, HUGE, 1), (False, 1, 1), (0, True, 1), (True, 0, 1), (0, 1, True),
    (0, 1, False), (0, 1, None), (0, None, 1), (None, 1, 1), ("0", 1, 1), (0, 1, "1"), (0, 1, (1,)), ((0,), 1, 1),
    ((0, 1), 1), {0: 1}, Net(1), ((0, 1, 2),), [(0, 1, 2)],
)


def drawn_spans(times, lanes=4, least=1):
    """Differences, of which some have rings, with the lanes and the draw from which more can be drawn."""
    for seed in range(times):
        draw = Draw(seed + 77)
        wide = least + draw.below(lanes - least + 1)
        most = draw.pick((0, 1, 3, 6, HUGE))
        low = draw.pick((None, None, 0, -1))
        yield wide, draw.differences(wide, draw.below(2 * wide + 2), most, low), draw


class Made(Case):
    def test_example(self):
        held = Spans(3, [(0, 1, 2), (1, 2, -1), (0, 2, 5)])
        self.same([held.closed(), [4, 3, 4] in held, lean(held).differences(), ring(held),
                   ring(held & Spans(3, [(2, 0, -2)])) is None],
                  [Spans(3, [(0, 1, 2), (0, 2, 1), (1, 2, -1)]), True, [(0, 1, 2), (1, 2, -1)], None, False])
        self.same([summit(held, [None, 0, None]), summit(held, (None, None, 3)), -held],
                  [[2, 0, None], [4, 2, 3], Spans(3, [(1, 0, 2), (2, 0, 5), (2, 1, -1)])])

    def test_parts(self):
        self.same([HELD.lanes, HELD.differences(), len(HELD)], [3, [(0, 1, 2), (0, 2, 5), (1, 2, -1)], 3])
        self.same([Spans(1).lanes, Spans(1).differences(), len(Spans(1)), Spans(12, ()).lanes], [1, [], 0, 12])
        self.same(Spans(lanes=2, differences=((1, 0, -HUGE),)).differences(), [(1, 0, -HUGE)])
        self.same([type(HELD.differences()), type(HELD.differences()[0])], [list, tuple])
        self.same(len(Spans(12, [(i, j, i - j) for i in range(12) for j in range(12) if i != j])), 132)

    def test_the_least_number_of_a_pair_counts(self):
        for told in ([(0, 1, 5), (0, 1, 3), (0, 1, 4)], [(0, 1, 3), (0, 1, 3)], [(0, 1, 4), (0, 1, 3)]):
            spans = Spans(2, told)
            self.same([spans.differences(), len(spans), spans.number(0, 1)], [[(0, 1, 3)], 1, 3])
        both = Spans(2, [(0, 1, 5), (1, 0, 7), (0, 1, -2), (1, 0, 8)])
        self.same([both.differences(), both.number(1, 0)], [[(0, 1, -2), (1, 0, 7)], 7])
        for lanes, told, _ in drawn_spans(80):
            self.same(Spans(lanes, told).differences(),
                      [(*pair, number) for pair, number in sorted(oracle.least_told(told).items())])

    def test_numbers_of_pairs(self):
        self.same([HELD.number(0, 1), HELD.number(0, 2), HELD.number(1, 2)], [2, 5, -1])
        self.same([HELD.number(one=1, other=0), HELD.number(2, 0), HELD.number(0, 0)], [None] * 3)
        for value in [own for own in NO_PAPERS + NOT_INTEGERS if type(own) is not int] + [3, 12, -1, HUGE]:
            self.same([HELD.number(value, 1), HELD.number(0, value), HELD.number(value, value)], [None] * 3)
        self.same([Spans(2, [(0, 1, 0)]).number(False, 1), Spans(2, [(0, 1, 0)]).number(0, True)], [None, None])

    def test_wrong_lanes(self):
        for value in NOT_INTEGERS + (0, -1, 13, HUGE, -HUGE):
            self.fails(InvalidLanes, {"value": value}, Spans, value)
            self.fails(InvalidLanes, {"value": value}, Spans, value, None)

    def test_wrong_differences(self):
        for value in NOT_LISTS:
            self.fails(InvalidDifferences, {"position": None}, Spans, 3, value)
        for value in NOT_DIFFERENCES:
            self.fails(InvalidDifferences, {"position": 0}, Spans, 3, [value, None])
            self.fails(InvalidDifferences, {"position": 2}, Spans, 3, ((0, 1, 2), (0, 1, 2), value))
        self.fails(InvalidDifferences, {"position": 0}, Spans, 1, [(0, 1, 0)])
        self.fails(InvalidDifferences, {"position": 1}, Spans, 12, [(0, 11, 0), (12, 0, 0)])

    def test_repr(self):
        self.assertEqual(repr(Spans(3, [(0, 1, 2)])), "Spans(3, [(0, 1, 2)])")
        self.assertEqual(repr(Spans(1)), "Spans(1, [])")
        self.assertEqual(repr(Spans(3, [(1, 0, 9), (0, 1, 4), (0, 1, 2)])), "Spans(3, [(0, 1, 2), (1, 0, 9)])")

    def test_never_changes(self):
        told = [(0, 1, 2), (1, 2, -1)]
        spans = Spans(3, told)
        told[0] = None
        told.append((2, 1, 0))
        spans.differences().append((2, 1, 0))
        spans.closed().differences().clear()
        self.same(spans.differences(), [(0, 1, 2), (1, 2, -1)])
        with self.assertRaises(AttributeError):
            spans.lanes = 2


class Fits(Case):
    def test_contents(self):
        for content, wanted in (([2, 0, 1], True), ((2, 0, 1), True), ([3, 0, 1], False), ([2, 0, 0], False),
                                ([-HUGE, HUGE, 2 * HUGE], True), ([0, 0, 1], True), ([0, 0, HUGE], True)):
            self.same(content in HELD, wanted)
        self.same([[HUGE] in Spans(1), [0] * 12 in Spans(12), [1] * 12 in Spans(12, [(11, 0, -1)])],
                  [True, True, False])

    def test_any_value(self):
        for value in NO_PAPERS + NOT_CONTENTS_OF_TWO:
            self.same(value in Spans(2), repr(value) in ("[1, 2]", "[0, 0]", "(0, 0)"))
        for value in ([True, 0], (0, False), [0, None], [0, 1, 2], [0], "01", {0: 1, 1: 2}):
            self.same(value in Spans(2), False)

    def test_drawn_ones(self):
        seen = {True: 0, False: 0}
        for lanes, told, draw in drawn_spans(150):
            spans = Spans(lanes, told)
            for content in drawn_contents(draw, lanes):
                wanted = oracle.fits(told, content)
                seen[wanted] += 1
                self.same([content in spans, tuple(content) in spans, raised(content, 7) in spans], [wanted] * 3)
                self.same([-number for number in content] in -spans, wanted)
        self.assertGreater(min(seen.values()), 100)

    def test_greatest_and_least_of_two(self):
        for lanes, told, draw in drawn_spans(80):
            fitting = [content for content in (draw.content(lanes, 4) for _ in range(12)) if content in Spans(lanes,
                                                                                                              told)]
            for one in fitting:
                for other in fitting:
                    self.same([list(map(max, one, other)) in Spans(lanes, told),
                               list(map(min, one, other)) in Spans(lanes, told)], [True, True])


class Together(Case):
    def test_both(self):
        one, other = Spans(3, [(0, 1, 2), (1, 2, 0)]), Spans(3, [(0, 1, 1), (1, 2, 5), (2, 0, -4)])
        self.same((one & other).differences(), [(0, 1, 1), (1, 2, 0), (2, 0, -4)])
        self.same([one & Spans(3), Spans(3) & one, one & one], [one] * 3)
        for lanes, told, draw in drawn_spans(60):
            more = draw.differences(lanes, 3, 3)
            both = Spans(lanes, told) & Spans(lanes, more)
            self.same(both.differences(), Spans(lanes, told + more).differences())
            for content in drawn_contents(draw, lanes):
                self.same(content in both, oracle.fits(told, content) and oracle.fits(more, content))

    def test_other_lanes(self):
        for one, other in ((1, 2), (2, 1), (12, 3), (3, 12)):
            self.fails(OtherLanes, {"one": one, "other": other}, lambda: Spans(one) & Spans(other))
            self.fails(OtherLanes, {"one": one, "other": other}, within, Spans(one), Spans(other))

    def test_signs_changed(self):
        self.same((-HELD).differences(), [(1, 0, 2), (2, 0, 5), (2, 1, -1)])
        for lanes, told, _ in drawn_spans(40):
            spans = Spans(lanes, told)
            self.same([-(-spans) == spans, (-spans).differences()],
                      [True, sorted((j, i, number) for i, j, number in spans.differences())])

    def test_equal(self):
        same = [Spans(3, [(0, 1, 2), (1, 2, -1)]), Spans(3, [(1, 2, -1), (0, 1, 2), (0, 2, 1)]), HELD, HELD.closed(),
                Spans(3, [(0, 1, 2), (0, 1, 9), (1, 2, -1), (0, 2, 100)])]
        for one in same:
            self.same([one == other for other in same], [True] * len(same))
        for other in (Spans(3), Spans(2, [(0, 1, 2)]), Spans(3, [(0, 1, 2), (1, 2, 0)]), -HELD, Spans(3, NOTHING),
                      Spans(4, HELD.differences()), HELD.differences(), repr(HELD), None, 3, True, Net(3), Map.same(3)):
            self.same([HELD == other, other == HELD, HELD != other], [False, False, True])
        # All to which nothing fits, of as many lanes.
        none = [Spans(3, NOTHING), Spans(3, [(0, 1, -1), (1, 0, 0)]), Spans(3, [(2, 1, -HUGE), (1, 2, 0), (0, 1, 4)])]
        for one in none:
            self.same([one == other for other in none], [True] * 3)
            self.same([one == Spans(3), one == Spans(4, [(0, 1, -1), (1, 0, 0)])], [False, False])

    def test_equal_by_plain_looking(self):
        seen = {True: 0, False: 0}
        for lanes, told, draw in drawn_spans(150, 3):
            small = [(i, j, number % 4 - 1) for i, j, number in told]
            more = draw.differences(lanes, 1, 3) + [own for own in small if draw.below(4)]
            ones, others = Spans(lanes, small), Spans(lanes, more)
            contents = oracle.boxed(lanes, 12)
            wanted = all(oracle.fits(small, content) == oracle.fits(more, content) for content in contents)
            seen[wanted] += 1
            self.same([ones == others, others == ones], [wanted, wanted])
        self.assertGreater(min(seen.values()), 20, seen)


class Closed(Case):
    def test_drawn_ones(self):
        seen = {True: 0, False: 0}
        for lanes, told, _ in drawn_spans(250, 5):
            spans, empty = Spans(lanes, told), oracle.has_ring(told, lanes)
            seen[empty] += 1
            if empty:
                self.fails(NothingFits, {}, spans.closed)
                continue
            closed = spans.closed()
            self.same(closed.differences(),
                      [(*pair, number) for pair, number in sorted(oracle.closed(told, lanes).items())])
            self.same([closed.closed().differences(), closed == spans], [closed.differences(), True])
        self.assertGreater(min(seen.values()), 20, seen)

    def test_each_difference_comes(self):
        for lanes, told, _ in drawn_spans(60, 4):
            if oracle.has_ring(told, lanes):
                continue
            spans = Spans(lanes, told)
            closed = spans.closed()
            for i in range(lanes):
                for j in range(lanes):
                    number = closed.number(i, j)
                    # From the lane j as low as it may stand, i stands as high as it may.
                    row = [0 if lane == j else None for lane in range(lanes)]
                    self.same(summit(spans, row)[i], 0 if i == j else number)

    def test_nothing_fits(self):
        for spans in (Spans(3, NOTHING), Spans(2, [(0, 1, -1), (1, 0, 0)]), Spans(12, [(11, 0, -1), (0, 11, 0)])):
            self.fails(NothingFits, {}, spans.closed)
            # All else tells of them, too.
            self.same([spans.differences() != [], len(spans) > 0, [0] * spans.lanes in spans, spans & spans == spans,
                       (-spans).lanes, spans.number(0, 5), repr(spans)[:5]],
                      [True, True, False, True, spans.lanes, None, "Spans"])

    def test_just_not_nothing(self):
        self.same(Spans(2, [(0, 1, -1), (1, 0, 1)]).closed().differences(), [(0, 1, -1), (1, 0, 1)])
        self.same(Spans(3, [(0, 1, 1), (1, 2, -2), (2, 0, 1)]).closed().differences(),
                  [(0, 1, 1), (0, 2, -1), (1, 0, -1), (1, 2, -2), (2, 0, 1), (2, 1, 2)])

    def test_twelve_lanes(self):
        chain = Spans(12, [(lane, lane + 1, HUGE) for lane in range(11)])
        self.same([chain.closed().number(0, 11), len(chain.closed()), chain.closed().number(11, 0)],
                  [11 * HUGE, 66, None])


class Balls(Case):
    def test_ball(self):
        self.same(Spans.ball([5, 3], 2).differences(), [(0, 1, 4), (1, 0, 0)])
        self.same(Spans.ball(content=(5, 3, 9), many=0).differences(),
                  [(0, 1, 2), (0, 2, -4), (1, 0, -2), (1, 2, -6), (2, 0, 4), (2, 1, 6)])
        self.same([Spans.ball([7], 3), Spans.ball([0] * 12, HUGE).lanes, len(Spans.ball([0] * 12, 1))],
                  [Spans(1), 12, 132])

    def test_what_fits(self):
        draw = Draw(3)
        for lanes in (1, 2, 3):
            content = draw.content(lanes, 4)
            for many in (0, 1, 3, 10 ** 20):
                ball = Spans.ball(content, many)
                self.same([raised(content, 5) in ball, ball.closed() == ball], [True, True])
                for other in oracle.boxed(lanes, 9):
                    apart = [one - two for one, two in zip(other, content)]
                    self.same(list(other) in ball, max(apart) - min(apart) <= many)

    def test_wrong_ones(self):
        for value in NOT_LISTS + ([], (), [True], [None], ["1"], [[1]], [0] * 13, (0,) * 13):
            self.fails(InvalidContent, {"value": value}, Spans.ball, value, None)
        for value in NOT_COUNTS:
            self.fails(InvalidMany, {"value": value}, Spans.ball, [1, 2], value)


class NotEqualKinds(Case):
    def test_families_are_no_spans(self):
        self.same([Spans(1) == Family([((0, 0),)]), Family([((0, 0),)]) == Spans(1)], [False, False])

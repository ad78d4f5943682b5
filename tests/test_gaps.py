"""lanelots.gaps: values at rows, gaps, and the papers for them (points 43 to 45)."""

import copy

from lanelots.errors import InvalidLanes, InvalidLot, InvalidNumber, InvalidRow, LackingLane, NothingFits
from lanelots.families import Family
from lanelots.gaps import above, at_most, corner, endless, gap, is_above, is_at_most, is_endless, value_at
from lanelots.spans import Spans, summit
from tests import lot_oracle
from tests import span_oracle as oracle
from tests.helpers import (
    HUGE, LOTS, NO_PAPERS, NOT_INTEGERS, NOT_LISTS, NOT_LOTS, NOT_ROWS_OF_TWO, Case, antichain,
)
from tests.test_spans import HELD, NOTHING, drawn_spans

NONE = Spans(3, NOTHING)
F, G = Family([((0, 0),), ((2, 3),)]), Family([((1, 0),)])


def drawn_gaps(times, lanes=4, small=False):
    """Spans that something fits, by their differences, with two families of their lanes."""
    for wide, told, draw in drawn_spans(times, lanes):
        most = draw.pick((0, 2, 5)) if small else draw.pick((0, 2, 9, HUGE))
        if small:
            told = [(i, j, number % 4 - 1) for i, j, number in told]
        if not oracle.has_ring(told, wide):
            one, other = [draw.family(1 + draw.below(4), wide, most) for _ in range(2)]
            yield wide, told, one, other, draw


class Values(Case):
    def test_values_at_rows(self):
        family = Family([((0, 1), (1, 0)), ((1, 5),), ((2, 0),)])
        for row, wanted in (([0, 0, 0], 0), ([0, 0, 9], 1), ([0, 9, None], 9), ([None, 2, None], 7),
                            ([3, None, None], None),
                            ([None, None, -4], -4), ([None] * 3, None), ((0, 0, None, None, 7), 1), ([None, 1, 7], 6)):
            self.same(value_at(family, row), wanted)
        self.same(value_at(family=G, row=[None, HUGE]), HUGE)
        for value in NOT_ROWS_OF_TWO:
            wanted = {"[1, 2, 3]": 2, "(None, None, None)": None}
            if repr(value) in wanted:
                self.same(value_at(G, value), wanted[repr(value)])
            else:
                self.fails(InvalidRow, {"value": value}, value_at, G, value)
        for value in ([0] * 11, [None] * 13, [0, True] + [0] * 10):
            self.fails(InvalidRow, {"value": value}, value_at, Family([((11, 0),)]), value)
            self.fails(InvalidRow, {"value": value}, value_at, Family([((0, 0), (1, 0)), ((0, 3), (11, 0))]), value)

    def test_drawn_rows(self):
        for lanes, _, family, _, draw in drawn_gaps(80):
            row = draw.row(lanes, 5)
            self.same(value_at(family, row), oracle.value_at(family.lots(), row))
            full = draw.content(lanes, 5)
            self.same(value_at(family, full), family(full))

    def test_corners(self):
        self.same([corner(((0, 3), (2, -1)), 3), corner(((0, 3), (2, -1)), 5), corner(((11, 0),), 12)],
                  [[-3, None, 1], [-3, None, 1, None, None], [None] * 11 + [0]])
        self.same(corner(lot=((0, HUGE),), lanes=1), [-HUGE])
        for lot in LOTS:
            self.same(corner(lot, 12), oracle.corner(lot, 12))
            self.same(value_at(Family([lot]), corner(lot, lot[-1][0] + 1)), 0)
            for value in NOT_INTEGERS + (0, -1, lot[-1][0], 13, HUGE):
                self.fails(InvalidLanes, {"value": value}, corner, lot, value)
        for value in NOT_LOTS:
            self.fails(InvalidLot, {"value": value}, corner, value, None)


class Gaps(Case):
    def test_example(self):
        f, g = Family([((0, 0),), ((2, 3),)]), Family([((1, 0),)])
        self.same([gap(HELD, f, g), gap(HELD, g, f), endless(HELD, g, f),
                   is_at_most(HELD, f, g, 2, [(((0, 0),), [[0, 1]])])], [2, None, (((0, 0),), [1, 2]), True])

    def test_drawn_ones(self):
        seen = {None: 0, True: 0, False: 0}
        for lanes, told, one, other, _ in drawn_gaps(200):
            wanted = oracle.gap(told, lanes, one.lots(), other.lots())
            seen[None if wanted is None else wanted < 0] += 1
            self.same(gap(Spans(lanes, told), one, other), wanted)
        self.assertGreater(min(seen.values()), 15, seen)

    def test_by_plain_looking(self):
        seen = {True: 0, False: 0}
        for lanes, told, one, other, _ in drawn_gaps(120, 3, small=True):
            found = gap(Spans(lanes, told), one, other)
            most = [oracle.largest(told, one.lots(), other.lots(), oracle.boxed(lanes, size)) for size in (20, 30)]
            seen[found is None] += 1
            if found is None:
                # The higher the contents that are looked at, the greater.
                self.assertLess(most[0], most[1])
            else:
                self.assertEqual(most, [found, found])
        self.assertGreater(min(seen.values()), 15, seen)

    def test_facts(self):
        for lanes, told, one, other, draw in drawn_gaps(80):
            spans, third = Spans(lanes, told), draw.family(3, lanes, 4)
            parts = [gap(spans, one, third), gap(spans, third, other)]
            if None not in parts:
                self.assertLessEqual(gap(spans, one, other), sum(parts))
            self.same([gap(spans, one, one) == 0, gap(spans, one + 5, one), gap(spans, one, one + 5)], [True, 5, -5])
            closed = spans.closed()
            for i in range(lanes):
                for j in range(lanes):
                    self.same(gap(spans, Family([((i, 0),)]), Family([((j, 0),)])),
                              0 if i == j else closed.number(i, j))

    def test_lanes(self):
        self.same(gap(Spans(1), Family([((0, 3),)]), Family([((0, 5),)])), -2)
        self.same(gap(Spans(12, [(11, 0, HUGE)]), Family([((11, HUGE),)]), Family([((0, -HUGE),)])), 3 * HUGE)
        self.same(gap(Spans(12), Family(antichain(60)), Family([((11, 0),)])), None)
        self.same(gap(Spans(2), Family(antichain(60)), Family([((0, -40), (1, 9))])), 40)


class Papers(Case):
    def test_drawn_ones(self):
        seen = {}
        for lanes, told, one, other, draw in drawn_gaps(150):
            spans, found = Spans(lanes, told), gap(Spans(lanes, told), one, other)
            for number in (found, found - 1, found + 1, HUGE, -HUGE) if found is not None else (0, HUGE, -HUGE):
                wanted = found is not None and found <= number
                paper, content = at_most(spans, one, other, number), above(spans, one, other, number)
                # For each number one of both, never both.
                self.same([paper is not None, content is not None], [wanted, not wanted])
                self.same([is_at_most(spans, one, other, number, paper), is_above(spans, one, other, number, content)],
                          [wanted, not wanted])
                if wanted:
                    self.assertTrue(oracle.is_at_most(told, one.lots(), other.lots(), number, paper))
                    self.kinds(paper)
                else:
                    self.assertTrue(type(content) is list and oracle.fits(told, content))
                    self.assertGreater(lot_oracle.value(one.lots(), content) - lot_oracle.value(other.lots(), content),
                                       number)
            self.endless(lanes, told, one, other, found)
            seen[found is None] = seen.get(found is None, 0) + 1
        self.assertGreater(min(seen.values()), 20)

    def kinds(self, paper):
        self.assertIs(type(paper), list)
        for lot, ways in paper:
            self.assertEqual([type(lot), type(ways)], [tuple, list])
            self.assertEqual({type(way) for way in ways}, {list})

    def endless(self, lanes, told, one, other, found):
        spans, paper = Spans(lanes, told), endless(Spans(lanes, told), one, other)
        self.same([paper is None, is_endless(spans, one, other, paper)], [found is not None, found is None])
        if found is None:
            rows = [(lot, oracle.summit(told, oracle.corner(lot, lanes))) for lot in other.lots()]
            lot, row = [pair for pair in rows if oracle.value_at(one.lots(), pair[1]) is None][0]
            self.same(paper, (lot, [lane for lane in range(lanes) if row[lane] is None]))
            self.assertTrue(oracle.is_endless(told, one.lots(), other.lots(), *paper))

    def test_spoiled_papers(self):
        seen = {True: 0, False: 0}
        for lanes, told, one, other, draw in drawn_gaps(120, 4, small=True):
            spans, found = Spans(lanes, told), gap(Spans(lanes, told), one, other)
            if found is None:
                continue
            for paper in self.spoiled(at_most(spans, one, other, found), one, draw, lanes):
                for number in (found - 1, found, found + 1, found + 3):
                    wanted = oracle.is_at_most(told, one.lots(), other.lots(), number, paper)
                    seen[wanted] += 1
                    self.same(is_at_most(spans, one, other, number, paper), wanted)
        self.assertGreater(min(seen.values()), 100, seen)

    def spoiled(self, paper, one, draw, lanes):
        """Papers with an element more or less, another lot, another way, a lane more or less in a way."""
        found = [paper[:-1], paper + paper[-1:], paper[::-1], paper]
        for place, (lot, ways) in enumerate(paper):
            others = [(draw.pick(one.lots()), ways), (lot, ways[:-1]), (lot, ways + ways[-1:]), (lot, ways[::-1])]
            for at, way in enumerate(ways):
                for changed in (way + [draw.below(lanes)], way[1:], way[:-1], [draw.below(lanes)] + way, [way[0]],
                                [way[-1]],
                                way + way[-2:-1] + way[-1:], [draw.below(lanes), way[-1]], [way[0], draw.below(lanes)]):
                    others.append((lot, ways[:at] + [changed] + ways[at + 1:]))
            found.extend(paper[:place] + [other] + paper[place + 1:] for other in others)
        return found

    def test_ways_that_are_not_the_shortest(self):
        spans = Spans(3, [(0, 1, 2), (1, 0, 1), (1, 2, 0), (0, 2, 4)])
        x, z = Family([((0, 0),)]), Family([((2, 0),)])
        for number, lane_way, wanted in ((2, [0, 1, 2], True), (1, [0, 1, 2], False), (2, [0, 2], False),
                                         (4, [0, 2], True),
                                         (5, [0, 1, 0, 1, 2], True), (4, [0, 1, 0, 1, 2], False), (9, [0, 1], False),
                                         (9, [1, 2], False), (9, [0], False), (9, [], False), (HUGE, (0, 1, 2), True)):
            self.same(is_at_most(spans, x, z, number, [(((0, 0),), [lane_way])]), wanted)
        # A way may end at any lane of the lot, whose number there counts.
        both = Family([((1, 3), (2, 0))])
        for number, lane_way, wanted in ((-1, [0, 1], True), (-2, [0, 1], False), (2, [0, 1, 2], True),
                                         (1, [0, 2], False)):
            self.same(is_at_most(spans, x, both, number, [(((0, 0),), [lane_way])]), wanted)

    def test_each_lot_in_sequence(self):
        f, two = Family([((0, 0), (1, 5)), ((2, 0),)]), Family([((0, 0),), ((1, 0),)])
        spans = Spans(3, [(0, 1, 0), (1, 0, 0), (2, 0, 4)])
        wide, last = f.lots()
        right = [(wide, [[0], [1, 0]]), (last, [[2, 0, 1]])]
        self.same(is_at_most(spans, f, two, 5, right), True)
        for value, wanted in (
            (tuple(right), True), ([(wide, ([0], (1, 0))), right[1]], True),
            ([(wide, [[0, 1, 0], [1, 0]]), right[1]], True),
            ([right[1], right[0]], False), (right[:1], False), (right + right[1:], False), ([], False),
            ([list(right[0]), right[1]], False), ([(wide, [[1, 0], [0]]), right[1]], False),
            ([(wide, [[0]]), right[1]], False), ([(wide, [[0], [1, 0], [0]]), right[1]], False),
            ([(list(wide), [[0], [1, 0]]), right[1]], False), ([(((0, 0), (1, 4)), [[0], [1, 0]]), right[1]], False),
            ([(((0, False), (1, 5)), [[0], [1, 0]]), right[1]], False), ([(wide, [[0], [True, 0]]), right[1]], False),
            ([(wide, [[0], [1, False]]), right[1]], False), ([(wide, [[0], [1]]), right[1]], False),
            ([(wide, {0: [0], 1: [1, 0]}), right[1]], False), ([(wide, [[0], {1: 0}]), right[1]], False),
            ([(wide, [[0], [1, 0]], 0), right[1]], False), ([(wide,), right[1]], False), ([right[0], None], False),
            ({0: right[0], 1: right[1]}, False),
        ):
            self.same(is_at_most(spans, f, two, 5, value), wanted)

    def test_contents_above(self):
        for number, content, wanted in ((1, [2, 0, 1], True), (2, [2, 0, 1], False), (1, (2, 0, 1), True),
                                        (1, [3, 0, 1], False), (-1, [0, 0, 1], True), (0, [0, 0, 1], False),
                                        (-HUGE, [0, 0, 1], True), (HUGE, [0, 0, 1], False), (-1, [0, 0, 1, 0], False),
                                        (-1, [0, 0], False), (-1, [False, 0, 1], False), (-1, [0, 0, True], False),
                                        (-1, [None, 0, 1], False), (-1, {0: 0, 1: 0, 2: 1}, False)):
            self.same(is_above(HELD, F, G, number, content), wanted)

    def test_papers_without_end(self):
        spans = Spans(4, [(0, 1, 2), (2, 3, 0), (3, 2, 0)])
        f, g = Family([((0, 0), (2, 1)), ((1, 0), (3, 0))]), Family([((0, 5), (1, 5)), ((0, 9),)])
        one, other = g.lots()
        for value, wanted in (
            ((one, [2, 3]), True), ((other, [2, 3]), True), ((one, (3, 2)), True), ((one, [2]), False),
            ((one, [3]), False),
            ((other, [1, 2, 3]), True), ((one, [1, 2, 3]), False), ((one, []), False), ((one, [2, 3, 2]), False),
            ((one, [0, 1, 2, 3]), False), ([one, [2, 3]], False), ((one,), False), ((one, [2, 3], 0), False),
            ((list(one), [2, 3]), False), ((((0, 5),), [2, 3]), False), ((((0, 5), (1, True)), [2, 3]), False),
            ((one, {2: 3}), False), ((one, [2, 3, 4]), False), ((one, [2, None]), False), ((one, [2, "3"]), False),
            ((other, [True, 2, 3]), False), ((other, [1, 2]), False), ((other, [1]), False), ((one, [2, 3, -1]), False),
            ((one, [[2], 3]), False),
        ):
            self.same(is_endless(spans, f, g, value), wanted)
        # Each lot of the first family must have one of the lanes.
        self.same(is_endless(spans, Family([((0, 0),), ((3, 0),)]), g, (one, [2, 3])), False)
        self.same([endless(spans, f, g), gap(spans, f, g)], [(one, [2, 3]), None])
        self.same(endless(Spans(4, [(2, 0, 0), (3, 2, 0)]), f, g), None)

    def test_endless_by_drawn_lanes(self):
        seen = {True: 0, False: 0}
        for lanes, told, one, other, draw in drawn_gaps(150, 4, small=True):
            spans = Spans(lanes, told)
            for _ in range(12):
                lanes_told = [lane for lane in draw.order(lanes) if draw.below(2)] + [0] * (draw.below(9) == 0)
                lot = draw.pick(other.lots() + one.lots()[:1])
                wanted = oracle.is_endless(told, one.lots(), other.lots(), lot, lanes_told)
                seen[wanted] += 1
                self.same(is_endless(spans, one, other, (lot, lanes_told)), wanted)
                if wanted:
                    self.same(gap(spans, one, other), None)
        self.assertGreater(min(seen.values()), 25, seen)

    def test_any_value(self):
        lone = Spans(1)
        x = Family([((0, 0),)])
        for value in NO_PAPERS:
            self.same([is_at_most(HELD, F, G, 9, value), is_endless(HELD, G, F, value),
                       is_above(HELD, F, G, -9, value)],
                      [False, False, repr(value) == "[0, 0, 0]" and [0, 0, 0] in HELD])
            self.same([is_at_most(lone, x, x, 9, value), is_at_most(lone, x, x, 9, [value]),
                       is_at_most(lone, x, x, 9, [(value, [[0]])])], [False] * 3)
            self.same(is_at_most(lone, x, x, 9, [(((0, 0),), [value])]), repr(value) in ("[0]", "(0,)"))
            self.same(is_at_most(lone, x, x, 9, [(((0, 0),), value)]), False)
            self.same([is_endless(HELD, G, F, (value, [1, 2])), is_endless(HELD, G, F, (((0, 0),), value))],
                      [False, False])
        self.same(is_endless(HELD, G, F, (((0, 0),), [2, 1])), True)
        paper = at_most(HELD, F, G, 2)
        self.same(is_at_most(HELD, F, G, 2, copy.deepcopy(paper)), True)


class Errors(Case):
    OF_NUMBERS = (
        lambda spans, one, other, number: at_most(spans, one, other, number),
        lambda spans, one, other, number: above(spans, one, other, number),
        lambda spans, one, other, number: is_at_most(spans, one, other, number, None),
        lambda spans, one, other, number: is_above(spans, one, other, number, None),
    )
    OTHERS = (
        lambda spans, one, other: gap(spans, one, other),
        lambda spans, one, other: endless(spans, one, other),
        lambda spans, one, other: is_endless(spans, one, other, None),
    )

    def every(self):
        return list(self.OTHERS) + [
            lambda spans, one, other, action=action: action(spans, one, other, 0) for action in self.OF_NUMBERS]

    def test_numbers(self):
        for action in self.OF_NUMBERS:
            for value in NOT_INTEGERS:
                self.fails(InvalidNumber, {"value": value}, action, HELD, F, G, value)
                # Ahead of lanes that the spans lack, and of what fits nothing.
                self.fails(InvalidNumber, {"value": value}, action, Spans(1), F, G, value)
                self.fails(InvalidNumber, {"value": value}, action, NONE, F, G, value)

    def test_lacking_lanes(self):
        far = Family([((0, 0), (5, 0)), ((1, 0), (4, 1)), ((7, 0),)])
        for action in self.every():
            self.fails(LackingLane, {"lane": 2}, action, Spans(2), F, G)
            self.fails(LackingLane, {"lane": 2}, action, Spans(2), G, F)
            self.fails(LackingLane, {"lane": 4}, action, HELD, far, Family([((3, 0),)]))
            self.fails(LackingLane, {"lane": 3}, action, HELD, Family([((3, 0),)]), far)
            self.fails(LackingLane, {"lane": 4}, action, HELD, F, far)
            self.fails(LackingLane, {"lane": 11}, action, Spans(11), G, Family([((11, 0),)]))
            # Ahead of what fits nothing.
            self.fails(LackingLane, {"lane": 4}, action, NONE, F, far)
            self.fails(NothingFits, {}, action, NONE, F, G)
        self.same(gap(Spans(8), Family([((0, 0),)]), far), None)

    def test_what_is_right_beside_them(self):
        for action in self.every():
            action(Spans(3), F, G)
            action(Spans(3, [(0, 1, 1), (1, 2, -2), (2, 0, 1)]), F, G)
            action(Spans(12), Family([((11, 0),)]), Family([((0, 0), (11, 0))]))
        for value in NOT_LISTS:
            self.same([is_at_most(HELD, F, G, 2, value), is_endless(HELD, F, G, value)], [False, False])

    def test_repeated_and_changed_afterwards(self):
        told = at_most(HELD, F, G, 5)
        told[0][1][0].append(7)
        told[0][1].append([0])
        told.append(None)
        self.same(at_most(HELD, F, G, 5), [(((0, 0),), [[0, 1]])])
        paper = endless(HELD, G, F)
        paper[1].append(9)
        self.same([endless(HELD, G, F), summit(HELD, [0, None, None])], [(((0, 0),), [1, 2]), [0, None, None]])

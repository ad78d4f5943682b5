"""lanelots.even: even contents, uneven papers, laps, and contents that are kept below and above (points 85 to 87)."""

import itertools
from fractions import Fraction

from lanelots.errors import InvalidContent, InvalidNumber, TooMany, Uneven
from lanelots.even import (
    even_of, greatest_below, is_even, is_uneven, lap_of, least_above, moved_by, uneven_of,
)
from lanelots.families import Family
from lanelots.maps import Map
from lanelots.pace import answer_paper, paces, plan_paper
from lanelots.walks import is_walk
from tests import pace_oracle as oracle
from tests.helpers import (
    HUGE, NO_PAPERS, NOT_CONTENTS_OF_TWO, NOT_INTEGERS, NOT_LISTS, Case, Draw, drawn_contents,
)
from tests.pace_maps import (
    CHART, FAR_SPREAD, ROUND, SEVEN, SIX, SPREAD, SPREADS, SWAP, TOO_SPREAD, WIDE_AND_SPREAD, drawn_even_maps,
    drawn_maps, one_lot, raised, several, turns,
)
from tests.test_walks import NOT_PACES

EVEN = ((1, 2), [0, 1])
UNEVEN = (0, (1, 1), {0: (((0, 1),), 0)}, 1, (5, 1), {1: ([1], 0)})
FIRST = several([((1, 0),), ((2, 0),)], [((1, 0),)], [((2, 0),)])
# What tells the limits, of a map with a content of as many lanes.
LIMITED = (
    lambda chart, content: even_of(chart), lambda chart, content: uneven_of(chart), lap_of,
    lambda chart, content: least_above(chart, 0, content), lambda chart, content: greatest_below(chart, 0, content),
)


def all_drawn(times, lanes=4, far=(0, -100, 10 ** 29)):
    return list(drawn_maps(times, lanes, far=far)) + list(drawn_even_maps(times, lanes, far))


class Even(Case):
    def test_examples(self):
        turning = Map([Family([((1, 0),)]), Family([((0, 1),)])])
        self.same([is_even(turning, ((1, 2), [0, 1])), lap_of(turning, [0, 0]), moved_by(turning, [0, 0]),
                   even_of(CHART)], [True, (0, 2, 1), None, None])
        first = Map([Family([((1, 0),), ((2, 0),)]), Family([((1, 0),)]), Family([((2, 0),)])])
        self.same([least_above(first, 0, [0, 9, 9]), greatest_below(first, 0, [9, 0, 5]),
                   least_above(first, -1, [0, 0, 0])], [[9, 9, 9], [0, 0, 5], None])

    def test_even_or_uneven(self):
        seen = {True: 0, False: 0}
        for chart, _ in all_drawn(150) + all_drawn(40, 6):
            found, paper, told = even_of(chart), uneven_of(chart), paces(chart)
            is_one = len(set(told)) == 1
            seen[is_one] += 1
            self.same([found is not None, paper is not None], [is_one, not is_one])
            self.same([is_even(chart, found), is_uneven(chart, paper)], [is_one, not is_one])
            if is_one:
                self.looks_even(chart, found, told)
            else:
                self.looks_uneven(chart, paper)
        self.assertGreater(min(seen.values()), 40, seen)

    def looks_even(self, chart, found, told):
        (p, q), content = found
        self.same((p, q), told[0])
        self.assertTrue(type(found) is tuple and type(content) is list)
        self.assertTrue(all(abs(number) < 10 ** 9 for number in content))
        self.same(oracle.told(oracle.tables(chart), content, q), [number + p for number in content])

    def looks_uneven(self, chart, paper):
        slow, rate, plan, fast, later, answer = paper
        self.assertTrue(type(paper) is tuple and Fraction(*rate) < Fraction(*later))
        self.assertTrue(oracle.is_plan_paper(oracle.tables(chart), slow, rate, plan))
        self.assertTrue(oracle.is_answer_paper(oracle.tables(chart), fast, later, answer))

    def test_even_ones_are_walks(self):
        seen = {True: 0, False: 0}
        for chart, draw in all_drawn(120):
            pace = paces(chart)[0]
            contents = [draw.content(chart.lanes, most) for most in (0, 1, 2)] + [[number * pace[1] for number in range(
                chart.lanes)]]
            if even_of(chart) is not None:
                contents.append(even_of(chart)[1])
            for content in contents:
                for own in (pace, (pace[0] + pace[1], pace[1])):
                    wanted = oracle.told(oracle.tables(chart), content, own[1]) == [x + own[0] for x in content]
                    self.same([is_even(chart, (own, content)), is_even(chart, (own, tuple(content))),
                               is_walk(chart, ([own] * chart.lanes, content))], [wanted] * 3)
                    seen[wanted] += 1
        self.assertGreater(min(seen.values()), 100, seen)

    def test_small_ones(self):
        self.same([is_even(SWAP, ((1, 2), [HUGE - 1, HUGE])), is_even(SWAP, ((1, 2), [0, 0])),
                   is_even(SWAP, ((2, 4), [0, 2])), is_even(SWAP, ((1, 1), [0, 1])), is_even(chart=SWAP, value=EVEN)],
                  [True, False, False, False, True])
        self.same([is_even(SEVEN, ((0, 1), list(range(7)))), is_even(TOO_SPREAD, ((0, 1), [61, 0])),
                   is_even(Map.same(12), ((0, 1), [0] * 12)), is_even(WIDE_AND_SPREAD, ((61, 1), [0] * 7))],
                  [True, True, True, False])
        self.same([even_of(chart=ROUND)[0], even_of(raised(ROUND, -HUGE))[0]], [(1, 3), (1 - 3 * HUGE, 3)])

    def test_wrong_ones(self):
        for value in NO_PAPERS + NOT_LISTS + ([*EVEN], EVEN[::-1], (EVEN,), (*EVEN, 0), ((1, 2),), {0: EVEN}):
            self.same(is_even(SWAP, value), False)
            self.same([is_even(SWAP, (value, [0, 1])), is_even(SWAP, ((1, 2), value))], [False, False])
        for value in NOT_PACES + ([1, 2], (1, 2, 1), (-1, 2), (1, -2), (1, HUGE)):
            self.same(is_even(SWAP, (value, [0, 1])), False)
        for value in NOT_CONTENTS_OF_TWO:
            self.same(is_even(SWAP, ((1, 2), value)), False)
        self.same([is_even(SIX, ((0, 1), [0] * 6)), is_even(SIX, ((0, True), [0] * 6)), is_even(SIX, ((0, 1), [0] * 5)),
                   is_even(SIX, ((False, 1), [0] * 6))], [True, False, False, False])


class UnevenPapers(Case):
    def test_right_ones(self):
        plan, answer = UNEVEN[2], UNEVEN[5]
        for rate, later, wanted in (((1, 1), (5, 1), True), ((2, 1), (3, 1), True), ((1, 1), (-HUGE, 1), False),
                                    ((89, 60), (90, 60), True), ((90, 60), (90, 60), False), ((3, 2), (90, 60), False),
                                    ((91, 60), (90, 60), False), ((HUGE, 1), (5, 1), False)):
            self.same([is_uneven(CHART, (0, rate, plan, 1, later, answer)),
                       is_uneven(chart=CHART, value=(0, rate, plan, 1, later, {1: ((1,), 7)}))], [wanted] * 2)

    def test_one_part_otherwise(self):
        others = ((1, 2, -1, None, True, False, "0", [0]), ((5, 1), (1, 0), (0, 1), (True, 1), [1, 1], None, (1, 61)),
                  ({}, {1: (((1, 5),), 0)}, {0: (((0, 1),), True)}, {0: (((0, 0),), 0)}, None, []),
                  (0, 2, -1, None, True, "1"), ((1, 1), (6, 1), (5, 0), (5, True), [5, 1], None, (305, 61)),
                  ({}, {0: ([0, 1], 0)}, {1: ([0], 0)}, {1: ([1], False)}, {1: [1]}, None, []))
        for place, values in enumerate(others):
            for value in values:
                self.same(is_uneven(CHART, UNEVEN[:place] + (value,) + UNEVEN[place + 1:]), False)
        self.same([is_uneven(CHART, UNEVEN), is_uneven(CHART, UNEVEN[:5]), is_uneven(CHART, (*UNEVEN, 0)),
                   is_uneven(CHART, [*UNEVEN]), is_uneven(CHART, UNEVEN[3:] + UNEVEN[:3])], [True] + [False] * 4)
        for value in NO_PAPERS:
            self.same([is_uneven(CHART, value), is_uneven(SEVEN, value), is_uneven(TOO_SPREAD, value)], [False] * 3)

    def test_never_one_where_all_are_alike(self):
        for chart, draw in drawn_even_maps(60, 3):
            own = paces(chart)[0]
            for rate in (own, (own[0] - 1, own[1]), (own[0] + 1, own[1])):
                for slow in range(chart.lanes):
                    paper = (slow, rate, plan_paper(chart, slow, rate), 0, (rate[0] * 2 + 1, rate[1] * 2),
                             answer_paper(chart, 0, (rate[0] * 2 + 1, rate[1] * 2)))
                    self.same(is_uneven(chart, paper), False)

    def test_without_limits(self):
        plan, answer = {6: (((6, 0),), 0)}, {0: ([0], 0)}
        chart = SEVEN.with_family(0, Family([((0, 61),)]))
        self.same([is_uneven(chart, (6, (0, 1), plan, 0, (61, 1), answer)),
                   is_uneven(chart, (6, (0, 1), plan, 0, (62, 1), answer))], [True, False])


class MovedBy(Case):
    def test_drawn_ones(self):
        seen = set()
        for chart, draw in all_drawn(80, 3):
            for content in drawn_contents(draw, chart.lanes) + [list(range(chart.lanes))]:
                more = {new - old for new, old in zip(chart(content), content)}
                wanted = more.pop() if len(more) == 1 else None
                self.same([moved_by(chart, content), moved_by(chart, tuple(content))], [wanted] * 2)
                seen.add(wanted is None)
        self.assertEqual(seen, {True, False})

    def test_small_ones(self):
        self.same([moved_by(SIX, [1, 2, 3, 4, 5, 6]), moved_by(SWAP, [0, 0]), moved_by(turns(3, 3), [HUGE, HUGE]),
                   moved_by(chart=SEVEN, content=[0] * 7), moved_by(WIDE_AND_SPREAD, [0] * 7),
                   moved_by(TOO_SPREAD, [61, 0])], [0, None, 3, 0, None, 0])
        for value in NOT_CONTENTS_OF_TWO:
            self.fails(InvalidContent, {"value": value}, moved_by, CHART, value)


class Laps(Case):
    def test_by_going_round(self):
        seen = set()
        for chart, draw in all_drawn(100, 4, (0, 10 ** 29)):
            if len(set(paces(chart))) > 1:
                self.fails(Uneven, {}, lap_of, chart, draw.content(chart.lanes, 5))
                self.assertIsNone(oracle.lap(oracle.tables(chart), draw.content(chart.lanes, 5), 40))
                continue
            for content in (draw.content(chart.lanes, 1), draw.content(chart.lanes, 12), [0] * chart.lanes):
                wanted = oracle.lap(oracle.tables(chart), content, 90)
                found = lap_of(chart, content)
                if wanted is None:
                    self.assertGreater(found[0] + found[1], 90)
                    wanted = found
                self.same([found, lap_of(chart, tuple(content))], [wanted] * 2)
                p, q = paces(chart)[0]
                self.assertEqual((found[2] * q, found[1] % q), (found[1] * p, 0))
                seen.add((min(found[0], 4), found[1]))
        self.assertTrue({1, 2, 3, 4} <= {many for _, many in seen} and {0, 1, 4} <= {ahead for ahead, _ in seen}, seen)

    def test_short_and_long_ones(self):
        self.same([lap_of(SIX, [5, -HUGE, 0, 0, 0, HUGE]), lap_of(SWAP, [0, 0]), lap_of(turns(0, 0), [0, 1]),
                   lap_of(turns(0, 0), [7, 7]), lap_of(ROUND, [0, 0, 0]), lap_of(ROUND, [0, 0, 1])],
                  [(0, 1, 0), (0, 2, 1), (0, 2, 0), (0, 1, 0), (0, 3, 1), (0, 3, 1)])
        self.same(lap_of(turns(0, 0).beside(turns(0, 0, 0)), [0, 1, 0, 0, 1]), (0, 6, 0))
        # A lane that falls by one a round to what it may be at most: from so far above it takes so many rounds.
        chart = several([((0, -1), (1, 0))], [((1, 0),)])
        self.same([lap_of(chart, [9, 0]), lap_of(chart, [0, 9]), lap_of(chart, [0, 0])],
                  [(9, 1, 0), (1, 1, 0), (0, 1, 0)])
        for far in (998, 999):
            self.same(lap_of(chart=chart, content=[far, 0]), (far, 1, 0))
        for far in (1000, 1001, HUGE):
            self.fails(TooMany, {"what": "rounds", "limit": 1000}, lap_of, chart, [far, 0])
        slow = several([((0, -1), (1, 0))], [((2, 0),)], [((1, 0),)])
        self.same([lap_of(slow, [998, 0, 0]), lap_of(slow, [997, 0, -1])], [(998, 1, 0), (997, 2, 0)])
        for far in (998, 999, 1000):
            self.fails(TooMany, {"what": "rounds", "limit": 1000}, lap_of, slow, [far, 0, -1])

    def test_uneven_ones(self):
        for chart in (CHART, one_lot(((0, 0),), ((1, 1),)), turns(0, 1).beside(turns(0, 0, 1))):
            self.fails(Uneven, {}, lap_of, chart, [0] * chart.lanes)
            self.fails(InvalidContent, {"value": [0] * 12}, lap_of, chart, [0] * 12)


class Kept(Case):
    def test_of_a_small_box(self):
        """The least and the greatest ones by looking at all contents that may be they."""
        seen = {True: 0, False: 0}
        for chart, draw in drawn_maps(60, 3, 3, (0, 1, 2), (0, 5)):
            tables, lanes = oracle.tables(chart), range(chart.lanes)
            for number in {p // q + more for p, q in paces(chart) for more in (-1, 0, 1)}:
                content = [draw.number(2) for _ in lanes]
                low, high = least_above(chart, number, content), greatest_below(chart, number, content)
                box = list(itertools.product(range(9), repeat=chart.lanes))
                above = [[own + more for own, more in zip(content, part)] for part in box]
                below = [[own - more for own, more in zip(content, part)] for part in box]
                found = [x for x in above if oracle.kept_below(tables, x, number)]
                self.one_of(low, found, min)
                found = [x for x in below if oracle.kept_above(tables, x, number)]
                self.one_of(high, found, max)
                seen[low is None] += 1
                seen[high is None] += 1
                told = [Fraction(*own) for own in paces(chart)]
                self.same([low is None, high is None], [max(told) > number, min(told) < number])
        self.assertGreater(min(seen.values()), 30, seen)

    def one_of(self, told, found, pick):
        """What is told is the least or the greatest one at all lanes; what is found in the box alone may lack it."""
        if told is None:
            self.assertEqual(found, [])
        elif found:
            self.same(told, [pick(numbers) for numbers in zip(*found)])

    def test_drawn_ones(self):
        for chart, draw in all_drawn(100, 4, (0, 10 ** 29)):
            tables = oracle.tables(chart)
            told = [Fraction(*own) for own in paces(chart)]
            for number in {p // q + more for p, q in paces(chart) for more in (0, 1, 7)} | {HUGE, -HUGE}:
                for content in (draw.content(chart.lanes, 3), draw.content(chart.lanes, 400)):
                    low, high = least_above(chart, number, content), greatest_below(chart, number, content)
                    self.same([low is None, high is None], [max(told) > number, min(told) < number])
                    if low is not None:
                        self.assertTrue(oracle.kept_below(tables, low, number))
                        self.assertTrue(all(new >= old for new, old in zip(low, content)))
                        self.same([least_above(chart, number, low), least_above(chart, number, tuple(content))],
                                  [low] * 2)
                    if high is not None:
                        self.assertTrue(oracle.kept_above(tables, high, number))
                        self.assertTrue(all(new <= old for new, old in zip(high, content)))
                        self.same([greatest_below(chart, number, high), greatest_below(chart, number, tuple(content))],
                                  [high] * 2)

    def test_turned_about(self):
        for chart, draw in drawn_maps(60, 3, 3, (1, 5), (0, 3)):
            for number in range(-3, 4):
                content = draw.content(chart.lanes, 30)
                high = greatest_below(-chart, -number, [-own for own in content])
                self.same(least_above(chart, number, content), high and [-own for own in high])

    def test_least_of_two(self):
        # Of two contents that are kept below, the lesser numbers are, too.
        for chart, draw in drawn_maps(60, 3, 3, (1, 5), (0,)):
            number = max(-(-p // q) for p, q in paces(chart))
            one, two = [least_above(chart, number, draw.content(chart.lanes, 20)) for _ in range(2)]
            both = [min(pair) for pair in zip(one, two)]
            self.assertTrue(oracle.kept_below(oracle.tables(chart), both, number))

    def test_far_apart(self):
        for content in ([0, 1000], [1000, 0], [HUGE, HUGE - 1000]):
            self.assertTrue(least_above(CHART, 5, content) and greatest_below(CHART, 1, content))
            self.same([least_above(CHART, 4, content), greatest_below(CHART, 2, content)], [None, None])
        for content in ([0, 1001], [1001, 0], [HUGE, -HUGE], (0, 10 ** 6)):
            for number in (-HUGE, 0, 1, 5, HUGE):
                for action in (least_above, greatest_below):
                    self.fails(TooMany, {"what": "apart", "limit": 1000}, action, CHART, number, content)
        stairs = several([((0, -1),), ((1, 1),)], [((0, 1), (1, -1))])
        self.assertTrue(least_above(chart=stairs, number=0, content=[0, 1000]))
        slow = several([((1, 1),), ((2, 0),)], [((0, 0),), ((2, 0),)], [((2, 0),)])
        self.same([least_above(slow, 0, [0, 0, 1000]), least_above(slow, 0, [0, 0, -1000]),
                   greatest_below(slow, 0, [0, 0, 1000]), greatest_below(slow, 0, [0, 0, -1000])],
                  [[1000, 1000, 1000], [0, 0, -1000], [0, 0, 1000], [-1000, -1000, -1000]])

    def test_kept_already(self):
        self.same([least_above(SIX, 0, [1, 2, 3, 4, 5, 6]), greatest_below(SIX, 0, (1, 2, 3, 4, 5, 6)),
                   least_above(SIX, 7, [1, 2, 3, 4, 5, 6]), greatest_below(SIX, -7, [1, 2, 3, 4, 5, 6]),
                   least_above(FIRST, HUGE, (0, 9, 9)), least_above(FIRST, 0, [9, 9, 9])],
                  [[1, 2, 3, 4, 5, 6]] * 4 + [[0, 9, 9], [9, 9, 9]])

    def test_numbers_near_the_paces(self):
        self.same([least_above(SWAP, 0, [0, 0]), least_above(SWAP, 1, [0, 0]), greatest_below(SWAP, 0, [0, 0]),
                   greatest_below(SWAP, 1, [0, 0]), least_above(CHART, 5, [0, 0]), least_above(CHART, 4, [0, 0]),
                   greatest_below(CHART, 1, [0, 0]), greatest_below(CHART, 2, [0, 0])],
                  [None, [0, 0], [0, 0], None, [0, 0], None, [-1, 0], None])

    def test_what_was_passed_stays(self):
        content = [0, 9, 9]
        least_above(FIRST, 0, content).append(7)
        greatest_below(FIRST, 0, content).append(7)
        kept = least_above(SIX, 0, [0] * 6)
        kept[0] = None
        self.same([content, least_above(SIX, 0, [0] * 6)], [[0, 9, 9], [0] * 6])


class Wrong(Case):
    def test_parameters(self):
        for value in NOT_INTEGERS:
            for action in (least_above, greatest_below):
                self.fails(InvalidNumber, {"value": value}, action, CHART, value, None)
                self.fails(InvalidNumber, {"value": value}, action, TOO_SPREAD, value, [0, 2000])
        for value in NOT_CONTENTS_OF_TWO:
            for action in (least_above, greatest_below):
                self.fails(InvalidContent, {"value": value}, action, CHART, 0, value)
                self.fails(InvalidContent, {"value": value}, action, TOO_SPREAD, 0, value)
            self.fails(InvalidContent, {"value": value}, lap_of, CHART, value)
            self.fails(InvalidContent, {"value": value}, lap_of, TOO_SPREAD, value)

    def test_limits(self):
        for action in LIMITED:
            for chart in (SEVEN, WIDE_AND_SPREAD):
                # Ahead of Uneven, and of contents that are too far apart.
                for content in ([0] * 7, [0] * 6 + [HUGE]):
                    self.fails(TooMany, {"what": "lanes", "limit": 6}, action, chart, content)
            for chart in SPREADS:
                for content in ([0, 0], [0, HUGE]):
                    self.fails(TooMany, {"what": "spread", "limit": 60}, action, chart, content)
            for chart in (SIX, SPREAD, raised(SPREAD, -30), Map.same(1)):
                action(chart, [0] * chart.lanes)
        uneven = one_lot(((0, 0),), ((1, 61),))
        self.fails(TooMany, {"what": "spread", "limit": 60}, lap_of, uneven, [0, 0])
        self.fails(Uneven, {}, lap_of, one_lot(((0, 0),), ((1, 60),)), [0, 0])
        self.same([lap_of(FAR_SPREAD, [0, 0]), lap_of(FAR_SPREAD, [60, 0])],
                  [(1, 1, 10 ** 29), (0, 1, 10 ** 29)])

    def test_large_families_and_long_ways(self):
        for seed in range(6):
            draw = Draw(seed)
            chart = Map([Family(draw.lots(40, 6, 30, 3)) for _ in range(6)])
            own = paces(chart)
            number = max(-(-p // q) for p, q in own)
            content = [draw.below(1000) for _ in range(6)]
            self.assertTrue(oracle.kept_below(oracle.tables(chart), least_above(chart, number, content), number))

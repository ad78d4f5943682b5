"""lanelots.plans: maps of plans and of answers, best ones, rings and their means (points 75 and 76)."""

import itertools
from fractions import Fraction

from lanelots.errors import InvalidAnswer, InvalidLane, InvalidPlan, NotOneLot, TooMany
from lanelots.families import CoFamily, Family
from lanelots.maps import Map
from lanelots.pace import pace, paces
from lanelots.plans import (
    answer_map, best_answer, best_plan, is_best_answer, is_best_plan, plan_map, rings, steepest,
)
from tests import pace_oracle as oracle
from tests.helpers import HUGE, NO_PAPERS, NOT_LANES_OF_TWO, NOT_LISTS, Case, Draw, drawn_contents
from tests.pace_maps import (
    CHART, FAR_SPREAD, ROUND, SEVEN, SIX, SPREAD, SPREADS, SWAP, TOO_SPREAD, WIDE_AND_SPREAD, drawn_maps, one_lot,
    raised, several, turns,
)

PLAN, ANSWER = [((1, 0),), ((1, 5),)], [[0, 1], [1]]
WIDE = several([((0, 2), (1, 1)), ((1, 3),)], [((0, 0), (1, 0))])
NOT_PLANS = NOT_LISTS + (
    [], (), [((1, 0),)], PLAN + [((1, 5),)], PLAN[::-1], [((1, 0),), ((1, 4),)], [((1, 0),), None], [None, ((1, 5),)],
    [[(1, 0)], ((1, 5),)], [((1, 0),), [(1, 5)]], [((1, False),), ((1, 5),)], [((True, 0),), ((1, 5),)],
    [((1, 0), (1, 5)), ((1, 5),)], [(1, 0), (1, 5)], [0, 0], [True, False], ["lot", "lot"],
    {0: ((1, 0),), 1: ((1, 5),)},
    [Family([((1, 0),)]), Family([((1, 5),)])], Family(PLAN), CHART,
)
NOT_ANSWERS = NOT_LISTS + (
    [], (), [[0, 1]], [[0, 1], [1], [1]], [[1], [0, 1]], [[0], [1]], [[0, 1, 1], [1]], [[1, 0], [1]], [[0, 0], [1]],
    [[0, 1], [0]], [[0, 1], []], [[], []], [[0, 2], [1]], [[0, -1], [1]], [[0, 1], [None]], [[0, 1], ["1"]],
    [[0, 1], [True]], [[False, 1], [1]], [[0, 1], 1], [None, [1]], [[[0], 1], [1]], ["01", "1"], {0: [0, 1], 1: [1]},
    [{0: 0, 1: 1}, [1]], CHART,
)


class Maps(Case):
    def test_examples(self):
        one = Map([Family([((0, 2), (1, 1))]), Family([((0, 3),)])])
        self.same([rings(one), steepest(one, 1)], [[((0,), (2, 1)), ((0, 1), (2, 1))], ((0,), (2, 1))])
        chart = Map([Family([((0, 1),), ((1, 0),)]), Family([((1, 5),)])])
        self.same([paces(plan_map(chart, [((1, 0),), ((1, 5),)])), paces(one)],
                  [[(5, 1), (5, 1)], [(2, 1), (2, 1)]])

    def test_maps_of_plans(self):
        self.same([plan_map(CHART, PLAN), plan_map(chart=CHART, plan=tuple(PLAN))],
                  [one_lot(((1, 0),), ((1, 5),))] * 2)
        for chart, draw in drawn_maps(80):
            for plan in itertools.product(*oracle.tables(chart)):
                self.same(plan_map(chart, list(plan)), one_lot(*plan))
            for content in drawn_contents(draw, chart.lanes):
                plan = [draw.pick(family.lots()) for family in chart.families()]
                told = plan_map(chart, plan)(content)
                self.assertTrue(all(high >= own for high, own in zip(told, chart(content))))

    def test_maps_of_answers(self):
        self.same([answer_map(CHART, ANSWER), answer_map(chart=CHART, answer=((0, 1), (1,)))], [CHART] * 2)
        # Of a lane that is picked in several lots the least number counts.
        self.same(answer_map(WIDE, [[1, 1], [0]]), several([((1, 1),)], [((0, 0),)]))
        self.same(answer_map(WIDE, [[0, 1], [1]]), several([((0, 2),), ((1, 3),)], [((1, 0),)]))
        for chart, draw in drawn_maps(80):
            for content in drawn_contents(draw, chart.lanes):
                answer = [[draw.pick(lot)[0] for lot in family.lots()] for family in chart.families()]
                made = answer_map(chart, answer)
                self.same([family.lots() for family in made.families()],
                          oracle.answer_lots(oracle.tables(chart), answer))
                self.assertTrue(all(low <= own for low, own in zip(made(content), chart(content))))

    def test_wrong_ones(self):
        for value in NOT_PLANS:
            self.fails(InvalidPlan, {"value": value}, plan_map, CHART, value)
            self.same(is_best_plan(CHART, value), False)
        for value in NOT_ANSWERS:
            self.fails(InvalidAnswer, {"value": value}, answer_map, CHART, value)
            self.same(is_best_answer(CHART, value), False)
        for value in NO_PAPERS:
            self.fails(InvalidPlan, {"value": value}, plan_map, CHART, value)
            self.fails(InvalidAnswer, {"value": value}, answer_map, CHART, value)

    def test_without_limits(self):
        for chart in (SEVEN, WIDE_AND_SPREAD, *SPREADS, Map.same(12)):
            plan = [family.lots()[0] for family in chart.families()]
            self.same(plan_map(chart, plan), one_lot(*plan))
            answer = [[lot[0][0] for lot in family.lots()] for family in chart.families()]
            self.same(answer_map(chart, answer).lanes, chart.lanes)

    def test_what_was_passed_can_be_changed(self):
        plan, answer = list(PLAN), [[0, 1], [1]]
        made = [plan_map(CHART, plan), answer_map(CHART, answer)]
        plan[0] = None
        answer[0].clear()
        self.same(made, [one_lot(((1, 0),), ((1, 5),)), CHART])


class Best(Case):
    def test_told_ones(self):
        for chart, _ in drawn_maps(200):
            plan, answer = best_plan(chart), best_answer(chart)
            self.assertTrue(type(plan) is list and type(answer) is list)
            self.same([is_best_plan(chart, plan), is_best_answer(chart, answer)], [True, True])
            self.same([is_best_plan(chart, tuple(plan)), is_best_answer(chart, tuple(map(tuple, answer)))],
                      [True, True])
            told = oracle.paces(oracle.tables(chart))
            self.assertEqual(oracle.paces_of_plan(plan), told)
            self.assertEqual(oracle.paces(oracle.answer_lots(oracle.tables(chart), answer)), told)

    def test_told_ones_of_wide_maps(self):
        for chart, _ in drawn_maps(80, 6, 5, (1, 5, 30)):
            self.same([paces(plan_map(chart, best_plan(chart))), paces(answer_map(chart, best_answer(chart)))],
                      [paces(chart)] * 2)

    def test_judged_by_all_paces(self):
        seen = {"plans": set(), "answers": set()}
        for chart, _ in drawn_maps(60, 3, 2, (0, 1, 3), (0, 10 ** 29)):
            tables = oracle.tables(chart)
            told = oracle.paces(tables)
            for plan in itertools.product(*tables):
                wanted = oracle.paces_of_plan(plan) == told
                self.same(is_best_plan(chart, list(plan)), wanted)
                seen["plans"].add(wanted)
                # No plan is slower than the map.
                self.assertTrue(all(own >= least for own, least in zip(oracle.paces_of_plan(plan), told)))
            for answer in oracle.answers(tables)[:40]:
                own = oracle.paces(oracle.answer_lots(tables, answer))
                self.same(is_best_answer(chart, answer), own == told)
                seen["answers"].add(own == told)
                self.assertTrue(all(low <= most for low, most in zip(own, told)))
        self.assertEqual(seen, {"plans": {True, False}, "answers": {True, False}})

    def test_best_at_all_lanes_at_once(self):
        self.same([is_best_plan(CHART, PLAN), is_best_plan(CHART, [((0, 1),), ((1, 5),)])], [False, True])
        wide = several([((0, 0), (1, 2)), ((0, 3),)], [((1, 1),)])
        self.same([is_best_answer(wide, [[0, 0], [1]]), is_best_answer(wide, [[1, 0], [1]])], [False, True])
        self.same([best_plan(SWAP), best_answer(SWAP)], [[((1, 0),), ((0, 1),)], [[1], [0]]])
        self.same([is_best_plan(chart=SWAP, value=[((1, 0),), ((0, 1),)]),
                   is_best_answer(chart=SWAP, value=([1], (0,)))], [True, True])

    def test_values_of_every_kind(self):
        for value in NO_PAPERS:
            for chart in (CHART, SIX, SPREAD, FAR_SPREAD):
                self.same([is_best_plan(chart, value), is_best_answer(chart, value)], [False, False])

    def test_limits_come_ahead_of_what_the_value_is(self):
        for value in NO_PAPERS + (PLAN, ANSWER, [((lane, 0),) for lane in range(7)], [[lane] for lane in range(7)]):
            for action in (is_best_plan, is_best_answer):
                self.fails(TooMany, {"what": "lanes", "limit": 6}, action, SEVEN, value)
                self.fails(TooMany, {"what": "lanes", "limit": 6}, action, WIDE_AND_SPREAD, value)
                self.fails(TooMany, {"what": "spread", "limit": 60}, action, TOO_SPREAD, value)
        # A plan's own numbers may be near one another.
        self.fails(TooMany, {"what": "spread", "limit": 60}, is_best_plan, TOO_SPREAD, [((0, 0), (1, 61)), ((1, 0),)])

    def test_what_was_told_is_new(self):
        for action in (best_plan, best_answer):
            told = action(CHART)
            again = action(CHART)
            told.append(None)
            told[0] = None
            self.same(action(CHART), again)


class Rings(Case):
    def test_drawn_ones(self):
        seen = set()
        for seed in range(150):
            draw = Draw(seed)
            lanes, least = 1 + draw.below(6), 1
            lots = [draw.lot(lanes, draw.pick((0, 1, 5, HUGE)), least) for _ in range(lanes)]
            chart = one_lot(*lots)
            wanted = [(ring, oracle.as_pace(mean)) for ring, mean in oracle.rings_of_plan(lots)]
            self.same(rings(chart), wanted)
            seen.add(min(len(wanted), 9))
            for lane in range(lanes):
                self.steep(chart, lots, wanted, lane)
        self.assertTrue(seen >= {1, 2, 3, 4, 9}, seen)

    def steep(self, chart, lots, told, lane):
        near = [(ring, mean) for ring, mean in told if set(ring) & oracle.come_to(lots, lane)]
        most = max(Fraction(*mean) for _, mean in near)
        wanted = [(ring, mean) for ring, mean in near if Fraction(*mean) == most][0]
        self.same(steepest(chart, lane), wanted)
        # The pace is the greatest mean that is come to.
        if max(abs(number) for lot in lots for _, number in lot) <= 30:
            self.same(pace(chart, lane), wanted[1])

    def test_rings_by_walking_through_them(self):
        for seed in range(40):
            draw = Draw(seed)
            lots = [draw.lot(5, 20, 2) for _ in range(5)]
            for ring, (p, q) in rings(one_lot(*lots)):
                content = [0] * 5
                self.assertEqual((min(ring), len(set(ring))), (ring[0], len(ring)))
                for _ in range(2 * len(ring)):
                    content = oracle.told([[lot] for lot in lots], content)
                # What one ring brings is at most what the greatest lanes bring.
                self.assertTrue(all(content[lane] * q >= 2 * len(ring) * p for lane in ring))

    def test_small_ones(self):
        self.same([rings(SIX), steepest(SIX, 3)], [[((lane,), (0, 1)) for lane in range(6)], ((3,), (0, 1))])
        self.same([rings(SWAP), rings(ROUND), rings(Map.same(1))],
                  [[((0, 1), (1, 2))], [((0, 1, 2), (1, 3))], [((0,), (0, 1))]])
        self.same(rings(turns(4, 0)), [((0, 1), (2, 1))])
        full = one_lot(*[tuple((lane, 0) for lane in range(6))] * 6)
        self.same([len(rings(full)), rings(full)[:3], steepest(full, 5)],
                  [415, [((0,), (0, 1)), ((0, 1), (0, 1)), ((0, 1, 2), (0, 1))], ((0,), (0, 1))])
        # The first one of those with equal means; a lane that comes to a ring and is in none.
        chart = one_lot(((1, 9), (2, 0)), ((1, 1), (3, 1)), ((2, 1),), ((1, 1),))
        self.same(rings(chart), [((1,), (1, 1)), ((1, 3), (1, 1)), ((2,), (1, 1))])
        self.same([steepest(chart, lane) for lane in range(4)],
                  [((1,), (1, 1)), ((1,), (1, 1)), ((2,), (1, 1)), ((1,), (1, 1))])
        self.same(rings(one_lot(((0, -3), (1, -4)), ((0, -3),))), [((0,), (-3, 1)), ((0, 1), (-7, 2))])
        self.same(steepest(chart=one_lot(((0, -HUGE), (1, 1)), ((0, HUGE),)), lane=1), ((0, 1), ((HUGE + 1) // 2, 1)))

    def test_far_numbers_are_no_matter(self):
        for chart in (TOO_SPREAD, one_lot(((0, HUGE),), ((0, -HUGE),))):
            self.assertTrue(rings(chart) and steepest(chart, 1))

    def test_errors_in_their_sequence(self):
        for value in NOT_LANES_OF_TWO:
            self.fails(InvalidLane, {"value": value}, steepest, CHART, value)
            self.fails(InvalidLane, {"value": value}, steepest, SWAP, value)
        for chart, lane in ((CHART, 0), (several([((0, 0),)], [((0, 1),), ((1, 0),)]), 1), (WIDE, 0),
                            (SEVEN.with_family(5, Family([((0, 0),), ((1, 0),)])), 5),
                            (several(*[[((0, 0),), ((1, 0),)]] * 3), 0)):
            self.fails(NotOneLot, {"lane": lane}, rings, chart)
            self.fails(NotOneLot, {"lane": lane}, steepest, chart, 0)
            self.fails(InvalidLane, {"value": 12}, steepest, chart, 12)
        for chart in (SEVEN, Map.same(12), WIDE_AND_SPREAD):
            self.fails(TooMany, {"what": "lanes", "limit": 6}, rings, chart)
            self.fails(TooMany, {"what": "lanes", "limit": 6}, steepest, chart, 6)
            self.fails(InvalidLane, {"value": 12}, steepest, chart, 12)

    def test_limits_of_best_ones(self):
        for chart in SPREADS:
            for action in (best_plan, best_answer):
                self.fails(TooMany, {"what": "spread", "limit": 60}, action, chart)
        self.same(best_plan(raised(SPREAD, HUGE - 60)), [((0, HUGE - 60), (1, HUGE)), ((1, HUGE - 60),)])
        self.same(is_best_plan(Map([Family([((0, 0),)])]), [CoFamily([((0, 0),)])]), False)

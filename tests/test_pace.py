"""lanelots.pace: rates, paces, lanes by their paces, and what is at most and at least a rate (points 71 and 77)."""

from fractions import Fraction

from lanelots.errors import InvalidLane, InvalidRate, TooMany
from lanelots.families import Family
from lanelots.maps import Map
from lanelots.nets import Net
from lanelots.pace import (
    answer_paper, by_pace, is_answer_paper, is_at_least, is_at_most, is_plan_paper, is_rate, pace, paces, plan_paper,
)
from lanelots.plans import best_answer, best_plan, is_best_answer, is_best_plan
from lanelots.told import map_of
from tests import pace_oracle as oracle
from tests.helpers import HUGE, NO_PAPERS, NOT_LANES_OF_TWO, NOT_LISTS, Case, Draw
from tests.pace_maps import (
    CHART, FAR_SPREAD, SEVEN, SIX, SPREAD, SPREADS, SWAP, TOO_SPREAD, WIDE_AND_SPREAD, drawn_even_maps,
    drawn_maps, one_lot, raised, several, turns,
)

NOT_RATES = NOT_LISTS + (
    (), [], (1,), (1, 2, 3), [1, 2], (1, 0), (1, -1), (0, 0), (5, 61), (1, HUGE), (True, 1), (1, True), (0, False),
    (None, 1), (1, None), ("1", 1), (1, "1"), ((1,), 2), (1, [2]), (1, -60), Net(1),
)
RATES = ((0, 1), (0, 60), (1, 1), (-7, 3), (2, 4), (60, 60), (HUGE, 1), (-HUGE, 60), (HUGE, 59), (60, 12))
# What tells the limits, of a map that has lane 0, whatever it is.
LIMITED = (
    lambda chart: pace(chart, 0), paces, by_pace, lambda chart: is_at_most(chart, 0, (1, 1)),
    lambda chart: is_at_least(chart, 0, (1, 1)), lambda chart: plan_paper(chart, 0, (1, 1)),
    lambda chart: answer_paper(chart, 0, (1, 1)), best_plan, best_answer,
    lambda chart: is_best_plan(chart, None), lambda chart: is_best_answer(chart, None),
)


def near_rates(own):
    """Rates just at a pace, in lowest terms and not, and a little below and above it, by few parts and by many."""
    p, q = own
    at = [(p, q), (2 * p, 2 * q), (p * (60 // q), 60)]
    return at, [(p - 1, q), (p * (60 // q) - 1, 60)], [(p + 1, q), (p * (60 // q) + 1, 60)]


class Rates(Case):
    def test_each_kind_of_value(self):
        for value in RATES:
            self.same(is_rate(value), True)
        for value in NOT_RATES + NO_PAPERS:
            self.same(is_rate(value), isinstance(value, tuple) and repr(value) == "(0, 1)")
        self.same(is_rate(value=(1, 60)), True)

    def test_invalid_rates(self):
        for action in (is_at_most, is_at_least, plan_paper, answer_paper):
            for value in NOT_RATES:
                self.fails(InvalidRate, {"value": value}, action, CHART, 0, value)
                self.fails(InvalidRate, {"value": value}, action, SEVEN, 6, value)
                self.fails(InvalidLane, {"value": 2}, action, CHART, 2, value)
            for value in RATES:
                action(CHART, 1, value)
        for action in (is_plan_paper, is_answer_paper):
            for value in NOT_RATES:
                self.fails(InvalidRate, {"value": value}, action, CHART, 0, value, None)
                self.fails(InvalidLane, {"value": -1}, action, CHART, -1, value, None)


class Paces(Case):
    def test_examples(self):
        chart = Map([Family([((0, 1),), ((1, 0),)]), Family([((1, 5),)])])
        self.same([paces(chart), by_pace(chart), pace(Map([Family([((1, 1),)]), Family([((0, 0),)])]), 0)],
                  [[(1, 1), (5, 1)], [((1, 1), [0]), ((5, 1), [1])], (1, 2)])

    def test_by_all_plans(self):
        seen = set()
        for chart, _ in drawn_maps(400):
            wanted = [oracle.as_pace(own) for own in oracle.paces(oracle.tables(chart))]
            self.same(paces(chart), wanted)
            self.same([pace(chart, lane) for lane in range(chart.lanes)], wanted)
            self.assertTrue(all(q <= chart.lanes for _, q in wanted))
            seen.update(q for _, q in wanted)
        self.assertEqual(seen, {1, 2, 3, 4})

    def test_wide_ones_by_all_plans(self):
        seen = set()
        for chart, draw in drawn_maps(120, 6, 2, (1, 3, 30)):
            wanted = oracle.paces(oracle.tables(chart))
            self.same(paces(chart), [oracle.as_pace(own) for own in wanted])
            seen.add((chart.lanes, len(set(wanted))))
        self.assertGreater(len(seen), 8)

    def test_by_long_rounds(self):
        # A lane is never farther from its pace, times the rounds, than all numbers of the map's rings come to.
        for chart, draw in list(drawn_maps(60, 6, 4, (2, 30), (0,))) + list(drawn_even_maps(40, 6, (0,))):
            content = draw.content(chart.lanes, 20)
            told = oracle.behind(oracle.tables(chart), content, 2000)
            for number, (p, q) in zip(told, paces(chart)):
                self.assertLess(abs(Fraction(number, 2000) - Fraction(p, q)), Fraction(1, 2))

    def test_the_same_from_each_content(self):
        for chart, draw in drawn_maps(40, 4, 3, (2, 5), (0,)):
            for content in (draw.content(chart.lanes, 3), draw.content(chart.lanes, 40)):
                many, told = 60 * 40, list(content)
                for _ in range(many):
                    told = chart(told)
                for number, own, (p, q) in zip(told, content, paces(chart)):
                    self.assertLess(abs(number - own - many // q * p), 400)

    def test_far_from_nought(self):
        for chart, _ in drawn_maps(60, 4, 3, (1, 5, 30), (0,)):
            for number in (1, -60, 10 ** 29, -HUGE):
                self.same(paces(raised(chart, number)), [(p + q * number, q) for p, q in paces(chart)])

    def test_small_ones(self):
        self.same([paces(SIX), paces(Map.same(1)), paces(one_lot(((0, -7),)))], [[(0, 1)] * 6, [(0, 1)], [(-7, 1)]])
        self.same([paces(turns(0, 1)), paces(turns(1, 1)), paces(turns(0, 0, 1)), paces(turns(0, 0, 2))],
                  [[(1, 2)] * 2, [(1, 1)] * 2, [(1, 3)] * 3, [(2, 3)] * 3])
        self.same(paces(turns(0, 0, 0, 0, 0, -1)), [(-1, 6)] * 6)
        self.same(paces(turns(0, 60, 0, 60, 0, 0)), [(20, 1)] * 6)
        # A lane that is in no ring comes to one; a family has the choice, a lot takes the faster one.
        self.same(paces(several([((1, 60),)], [((1, 3),)])), [(3, 1)] * 2)
        self.same(paces(several([((1, 0),), ((2, 9),)], [((1, 3),)], [((2, 2),)])), [(2, 1), (3, 1), (2, 1)])
        self.same(paces(several([((1, 0), (2, 9))], [((1, 3),)], [((2, 2),)])), [(3, 1), (3, 1), (2, 1)])
        # Two lanes that are nearly as fast, one round five lanes, one alone.
        nearly = Map(turns(1, 0, 0, 0, 0).families() + [Family([((5, 0),)])])
        self.same(paces(nearly), [(1, 5)] * 5 + [(0, 1)])
        self.same(by_pace(nearly), [((0, 1), [5]), ((1, 5), [0, 1, 2, 3, 4])])

    def test_near_means(self):
        """A lane with the choice between rings of unlike lengths whose means are as near as they can be."""
        fifth = [((1, 12),)], [((2, 12),)], [((3, 12),)], [((4, 12),)], [((0, 11),)]
        for last, own in (([((0, 0),)], (59, 5)), ([((5, 12),)], (12, 1)), ([((0, 60), (5, 11))], (59, 5)),
                          ([((0, 60),), ((5, 11),)], (11, 1)), ([((0, 0), (5, 12))], (12, 1)),
                          ([((0, 0),), ((5, 12),)], (59, 5))):
            self.same(paces(several(*fifth, last)), [(59, 5)] * 5 + [own])
        both = several([((1, 60),)], [((0, 59),)], [((3, 60),)], [((4, 60),)], [((2, 58),)], [((0, 0),), ((2, 60),)])
        self.same(paces(both), [(119, 2)] * 2 + [(178, 3)] * 3 + [(178, 3)])

    def test_plain_maps_and_renumbering(self):
        for draw in [Draw(seed) for seed in range(20)]:
            lanes = 1 + draw.below(6)
            self.same(paces(Map.same(lanes).renumbered(draw.order(lanes))), [(0, 1)] * lanes)
            plain = Map([draw.family(1 + draw.below(4), lanes, 0) for _ in range(lanes)])
            self.same(paces(plain), [(0, 1)] * lanes)

    def test_large_families(self):
        for seed in range(12):
            draw = Draw(seed)
            chart = Map([Family(draw.lots(60, 6, 30, 3)) for _ in range(6)])
            told = paces(chart)
            for lane, rate in enumerate(told):
                self.same([is_plan_paper(chart, lane, rate, plan_paper(chart, lane, rate)),
                           is_answer_paper(chart, lane, rate, answer_paper(chart, lane, rate))], [True, True])

    def test_invalid_lanes(self):
        for value in NOT_LANES_OF_TWO:
            self.fails(InvalidLane, {"value": value}, pace, CHART, value)
            self.fails(InvalidLane, {"value": value}, pace, TOO_SPREAD, value)
            for action in (is_at_most, is_at_least, plan_paper, answer_paper):
                self.fails(InvalidLane, {"value": value}, action, TOO_SPREAD, value, None)


class ByPace(Case):
    def test_drawn_ones(self):
        seen = set()
        for chart, _ in drawn_maps(150, 6, 2):
            own = [Fraction(*told) for told in paces(chart)]
            wanted = [(oracle.as_pace(fraction), [lane for lane in range(chart.lanes) if own[lane] == fraction])
                      for fraction in sorted(set(own))]
            self.same(by_pace(chart), wanted)
            seen.add(len(wanted))
        self.assertTrue(seen >= {1, 2, 3, 4}, seen)

    def test_signs_and_order(self):
        chart = one_lot(((0, -1),), ((1, 3),), ((2, -1),), ((4, 0),), ((3, 1),), ((5, 0),))
        self.same(by_pace(chart), [((-1, 1), [0, 2]), ((0, 1), [5]), ((1, 2), [3, 4]), ((3, 1), [1])])
        self.same(by_pace(chart=Map.same(1)), [((0, 1), [0])])
        self.same(by_pace(raised(chart, -HUGE))[2], ((1 - 2 * HUGE, 2), [3, 4]))


class AtMostAtLeast(Case):
    def test_rates_near_paces(self):
        for chart, _ in drawn_maps(60):
            for lane, own in enumerate(paces(chart)):
                at, below, above = near_rates(own)
                for rates, wanted in ((at, (True, True)), (below, (False, True)), (above, (True, False))):
                    for rate in rates:
                        self.same((is_at_most(chart, lane, rate), is_at_least(chart, lane, rate)), wanted)

    def test_far_rates(self):
        self.same([is_at_most(CHART, 0, (HUGE, 1)), is_at_most(CHART, 0, (-HUGE, 60)),
                   is_at_least(CHART, 0, (HUGE, 60)),
                   is_at_least(CHART, 0, (-HUGE, 1))], [True, False, False, True])
        self.same([is_at_most(chart=SWAP, lane=0, rate=(1, 2)), is_at_least(chart=SWAP, lane=1, rate=(30, 60)),
                   is_at_most(SWAP, 0, (29, 60)), is_at_least(SWAP, 0, (31, 60))], [True, True, False, False])


class Limits(Case):
    def test_what_is_too_wide_or_too_far_apart(self):
        for action in LIMITED:
            self.fails(TooMany, {"what": "lanes", "limit": 6}, action, SEVEN)
            self.fails(TooMany, {"what": "lanes", "limit": 6}, action, Map.same(12))
            # Both at once: lanes come first.
            self.fails(TooMany, {"what": "lanes", "limit": 6}, action, WIDE_AND_SPREAD)
            for chart in SPREADS:
                self.fails(TooMany, {"what": "spread", "limit": 60}, action, chart)

    def test_what_is_right_beside_them(self):
        for action in LIMITED:
            for chart in (SIX, SPREAD, FAR_SPREAD, one_lot(((0, -30),), ((1, 30),))):
                action(chart)
        self.same([paces(SPREAD), paces(FAR_SPREAD)], [[(0, 1)] * 2, [(10 ** 29, 1)] * 2])

    def test_far_numbers(self):
        for number in (HUGE - 60, 60 - HUGE, -HUGE):
            self.same(paces(raised(several([((0, 0), (1, 60)), ((1, 30),)], [((1, 1),)]), number)),
                      [(1 + number, 1)] * 2)

    def test_parameters_come_first(self):
        for chart in (SEVEN, WIDE_AND_SPREAD, TOO_SPREAD):
            self.fails(InvalidLane, {"value": 7}, pace, chart, 7)
            for action in (is_at_most, is_at_least, plan_paper, answer_paper):
                self.fails(InvalidLane, {"value": 7}, action, chart, 7, (1, 61))
                self.fails(InvalidRate, {"value": (1, 61)}, action, chart, 0, (1, 61))

    def test_what_judges_without_limits(self):
        for chart in (SEVEN, WIDE_AND_SPREAD, *SPREADS):
            self.same([is_plan_paper(chart, 0, (0, 1), None), is_answer_paper(chart, 0, (0, 1), {})], [False, False])
        self.same([is_plan_paper(SEVEN, 6, (0, 1), {6: (((6, 0),), 5)}),
                   is_answer_paper(SEVEN, 6, (0, 1), {6: ([6], 5)})], [True, True])
        self.same([is_plan_paper(TOO_SPREAD, 1, (0, 1), {1: (((1, 0),), 0)}),
                   is_answer_paper(TOO_SPREAD, 0, (0, 1), {0: ([0], 0)})], [True, True])


class Changed(Case):
    """Point 77."""

    def test_turned_about(self):
        for chart, _ in drawn_maps(120):
            self.same(paces(-chart), [(-p, q) for p, q in paces(chart)])

    def test_put_on_itself(self):
        for chart, _ in drawn_maps(60, 3, 2, (1, 2, 5), (0, 3)):
            for many in (2, 3):
                wanted = [Fraction(many * p, q) for p, q in paces(chart)]
                self.same(paces(chart * many), [oracle.as_pace(own) for own in wanted])
            self.same(paces(chart * 0), [(0, 1)] * chart.lanes)

    def test_at_most_another_one(self):
        for chart, draw in drawn_maps(80, 4, 3, (1, 5), (0,)):
            lane = draw.below(chart.lanes)
            other = draw.family(2, chart.lanes, 5)
            lesser, greater = chart.with_family(lane, chart[lane] & other), chart.with_family(lane, chart[lane] | other)
            for low, own, high in zip(paces(lesser), paces(chart), paces(greater)):
                self.assertTrue(Fraction(*low) <= Fraction(*own) <= Fraction(*high))

    def test_renumbered_and_beside(self):
        for chart, draw in drawn_maps(60, 3):
            order = draw.order(chart.lanes)
            moved = paces(chart.renumbered(order))
            self.same([moved[order[lane]] for lane in range(chart.lanes)], paces(chart))
            self.same(paces(chart.beside(chart)), paces(chart) * 2)

    def test_differences_stay_bounded(self):
        for chart, draw in drawn_maps(60, 4, 3, (1, 3), (0,)):
            told = paces(chart)
            content = draw.content(chart.lanes, 9)
            early, late = (oracle.behind(oracle.tables(chart), content, many) for many in (1500, 3000))
            for i in range(chart.lanes):
                for j in range(chart.lanes):
                    far = abs((late[i] - late[j]) - (early[i] - early[j]))
                    self.assertEqual(far < 60, told[i] == told[j])

    def test_of_nets(self):
        net = Net(2, [("low", 0, 1), ("add", 0, 2)])
        self.same([paces(map_of(net)), paces(map_of(net * 3)), paces(map_of(-net))], [[(0, 1)] * 2] * 3)
        self.same(paces(map_of(net + Net(2, [("add", 1, 1)]))), [(1, 1)] * 2)
        self.same(paces(map_of(net + Net(2, [("add", 1, 5)]))), [(2, 1), (5, 1)])

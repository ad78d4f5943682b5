"""lanelots.pace: plan papers and answer papers, and the bounds that they let behind rounds (points 72 to 74)."""

import math
from fractions import Fraction

from lanelots.errors import InvalidContent, InvalidLane, InvalidMany, InvalidPaper, InvalidRate
from lanelots.families import CoFamily, Family
from lanelots.maps import Map
from lanelots.pace import (
    answer_paper, is_answer_paper, is_plan_paper, least_behind, most_behind, paces, plan_paper,
)
from tests import pace_oracle as oracle
from tests.helpers import (
    HUGE, NO_PAPERS, NOT_CONTENTS_OF_TWO, NOT_COUNTS, NOT_INTEGERS, NOT_LANES_OF_TWO, Case, drawn_contents,
    spoiled_dicts,
)
from tests.pace_maps import (
    CHART, FAR_SPREAD, SEVEN, SIX, SPREAD, SPREADS, SWAP, TOO_SPREAD, WIDE_AND_SPREAD, drawn_maps, one_lot, raised,
    several,
)
from tests.test_pace import NOT_RATES, near_rates

PLAN = {0: (((0, 1),), 0)}
ANSWER = {0: ([0, 1], 0), 1: ([1], 1)}
ODD_LANES = (2, -1, None, "0", (0,), HUGE)
NOT_PARTS = (None, 0, (), [], (1,), (((0, 1),), 0, 0), [((0, 1),), 0], ["lot", 0], (0, ((0, 1),)))


def rates_of(chart, lane):
    at, below, above = near_rates(paces(chart)[lane])
    return at + below + above


class Told(Case):
    def test_one_of_both_or_both(self):
        seen = {-1: 0, 0: 0, 1: 0}
        for chart, _ in drawn_maps(150):
            told = oracle.paces(oracle.tables(chart))
            for lane in range(chart.lanes):
                for rate in rates_of(chart, lane):
                    fast = Fraction(*rate)
                    seen[(fast > told[lane]) - (fast < told[lane])] += 1
                    plan, answer = plan_paper(chart, lane, rate), answer_paper(chart, lane, rate)
                    self.same([plan is not None, answer is not None], [told[lane] <= fast, told[lane] >= fast])
                    self.looks(chart, lane, rate, plan, answer)
        self.assertGreater(min(seen.values()), 500)

    def looks(self, chart, lane, rate, plan, answer):
        for paper, judge, plain in ((plan, is_plan_paper, oracle.is_plan_paper),
                                    (answer, is_answer_paper, oracle.is_answer_paper)):
            if paper is not None:
                self.same([judge(chart, lane, rate, paper), plain(oracle.tables(chart), lane, rate, paper)],
                          [True, True])
                self.assertEqual(list(paper), sorted(paper))
                for part, height in paper.values():
                    self.assertTrue(type(height) is int and abs(height) < 10 ** 9)
                    self.assertIs(type(part), tuple if judge is is_plan_paper else list)

    def test_wide_ones(self):
        for chart, _ in drawn_maps(60, 6, 4, (1, 30)):
            for lane, (p, q) in enumerate(paces(chart)):
                for rate in ((p, q), (10 ** 29, 60), (-10 ** 29, 60), (p * (60 // q) + 1, 60)):
                    plan, answer = plan_paper(chart, lane, rate), answer_paper(chart, lane, rate)
                    self.looks(chart, lane, rate, plan, answer)
                    self.assertTrue(plan is not None or answer is not None)

    def test_far_rates(self):
        for chart in (CHART, SWAP, SIX, SPREAD, FAR_SPREAD):
            for rate in ((HUGE, 1), (HUGE, 60), (-HUGE, 60), (-HUGE, 1)):
                wanted = Fraction(*paces(chart)[0]) < Fraction(*rate)
                self.same([plan_paper(chart, 0, rate) is not None, answer_paper(chart, 0, rate) is not None],
                          [wanted, not wanted])
                self.looks(chart, 0, rate, plan_paper(chart, 0, rate), answer_paper(chart, 0, rate))

    def test_by_name_and_again(self):
        self.same([plan_paper(chart=CHART, lane=0, rate=(1, 2)), answer_paper(chart=CHART, lane=0, rate=(3, 2))],
                  [None, None])
        for told in (plan_paper(CHART, 1, (11, 2)), answer_paper(CHART, 0, (1, 1))):
            told.clear()
        paper = answer_paper(CHART, 0, (1, 1))
        paper[0][0].append(None)
        self.same(is_answer_paper(CHART, 0, (1, 1), answer_paper(CHART, 0, (1, 1))), True)
        self.same(answer_paper(CHART, 0, (1, 1)), answer_paper(CHART, 0, (2, 2)) and answer_paper(CHART, 0, (1, 1)))


class PlanPapers(Case):
    def test_right_ones(self):
        for rate, paper in (((1, 1), PLAN), ((2, 1), {0: (((0, 1),), -HUGE)}), ((60, 60), {0: (((0, 1),), 7)}),
                            ((5, 1), {1: (((1, 5),), 0), 0: (((1, 0),), -5)}),
                            ((5, 1), {1: (((1, 5),), 0), 0: (((0, 1),), -HUGE)})):
            self.same(is_plan_paper(CHART, 0, rate, paper), True)
            self.same(is_plan_paper(chart=CHART, lane=0, rate=rate, value=dict(reversed(paper.items()))), True)
        self.same(is_plan_paper(CHART, 1, (5, 1), {1: (((1, 5),), HUGE)}), True)
        # Only lanes among the keys are shown.
        self.same(is_plan_paper(CHART, 1, (1, 1), PLAN), False)

    def test_heights_that_are_just_too_low(self):
        for low, wanted in ((-5, True), (-6, False), (HUGE, True)):
            self.same(is_plan_paper(CHART, 0, (5, 1), {0: (((1, 0),), low), 1: (((1, 5),), 0)}), wanted)
        for low, wanted in ((-1, True), (0, True), (1, False), (-2, False)):
            self.same(is_plan_paper(SWAP, 0, (1, 2), {0: (((1, 0),), 0), 1: (((0, 1),), 1)}), True)
            self.same(is_plan_paper(SWAP, 0, (1, 2), {0: (((1, 0),), low), 1: (((0, 1),), low + 1)}), True)
            self.same(is_plan_paper(SWAP, 0, (1, 2), {0: (((1, 0),), low), 1: (((0, 1),), 0)}), low == -1)

    def test_spoiled_ones(self):
        paper = {0: (((1, 0),), -5), 1: (((1, 5),), 0)}
        odd = NOT_PARTS + ((((1, 5),), True), (((1, 5),), None), (((1, 5),), "0"), ([(1, 5)], 0), (((0, 0),), -5),
                           (((1, 0),), -6), (((1, 1),), 0), (((1, True),), 0), (((True, 0),), 0), ((((1, 0),),), 0),
                           (Family([((1, 0),)]), 0))
        for value in spoiled_dicts(paper, ODD_LANES, odd):
            # Of the lane 1 itself nothing is asked but its own part.
            self.same(is_plan_paper(CHART, 0, (5, 1), value), False)
        self.same([is_plan_paper(CHART, 0, (5, 1), {0: (((1, 0),), -5), True: (((1, 5),), 0)}),
                   is_plan_paper(CHART, 0, (1, 1), {False: (((0, 1),), 0)})], [False, False])
        self.same([is_plan_paper(CHART, 0, (5, 1), paper), is_plan_paper(CHART, 0, (1, 1), {0: (((0, 1),), False)})],
                  [True, False])

    def test_values_of_every_kind(self):
        for value in NO_PAPERS:
            for chart in (CHART, SEVEN, TOO_SPREAD):
                self.same(is_plan_paper(chart, 0, (HUGE, 1), value), False)


class AnswerPapers(Case):
    def test_right_ones(self):
        for rate, paper in (((1, 1), ANSWER), ((-3, 1), ANSWER), ((2, 2), {0: ([0, 1], 0), 1: ([1], 2)}),
                            ((1, 1), {0: ((0, 1), 0), 1: ((1,), HUGE)}), ((0, 60), {0: ([0, 1], 7), 1: ([1], 7)})):
            self.same(is_answer_paper(CHART, 0, rate, paper), True)
            self.same(is_answer_paper(chart=CHART, lane=0, rate=rate, value=dict(reversed(paper.items()))), True)
        self.same([is_answer_paper(CHART, 1, (5, 1), {1: ([1], 0)}), is_answer_paper(CHART, 0, (5, 1), {1: ([1], 0)})],
                  [True, False])

    def test_heights_that_are_just_too_high(self):
        for high, wanted in ((1, True), (0, False), (HUGE, True)):
            self.same(is_answer_paper(CHART, 0, (1, 1), {0: ([0, 1], 0), 1: ([1], high)}), wanted)

    def test_spoiled_ones(self):
        odd = NOT_PARTS + (([0, 1], True), ([0, 1], None), ([0, 1], "0"), ([0], 0), ([0, 1, 1], 0), ([1, 1], 0),
                           ([1, 0], 0), ([0, 2], 0), ([0, None], 0), ([False, True], 0), ([[0], 1], 0), ({0: 1}, 0),
                           ("01", 0), ([0, 1], HUGE), ({0: 0, 1: 1}, 0), (b"\x00\x01", 0), (None, 0), (2, 0))
        for value in spoiled_dicts({0: ([0, 1], 0), 1: ([1], 1)}, ODD_LANES, odd):
            self.same(is_answer_paper(CHART, 0, (1, 1), value), False)
        self.same(is_answer_paper(CHART, 0, (1, 1), {0: ([0, 1], 0), True: ([1], 1)}), False)
        # Just one pick for each lot, and of a lot of several lanes any of them that is high enough.
        wide = several([((0, 0), (1, 2)), ((1, 3),)], [((1, 1),)])
        self.same([is_answer_paper(wide, 0, (1, 1), {0: (picks, 0), 1: ([1], 0)})
                   for picks in ([1, 1], [0, 1], [1], [1, 0])], [True, False, False, False])
        self.same(is_answer_paper(wide, 0, (0, 1), {0: ([0, 1], 0), 1: ([1], 0)}), True)

    def test_values_of_every_kind(self):
        for value in NO_PAPERS:
            for chart in (CHART, SEVEN, TOO_SPREAD):
                self.same(is_answer_paper(chart, 0, (-HUGE, 1), value), False)


class Judged(Case):
    def test_drawn_papers_with_one_part_otherwise(self):
        """Papers whose heights are drawn: right and wrong ones are told from one another as by plain looking."""
        seen = {True: 0, False: 0}
        for chart, draw in drawn_maps(150, 4, 2, (1, 3), (0, 10 ** 29)):
            lane = draw.below(chart.lanes)
            for rate in rates_of(chart, lane):
                plan, answer = plan_paper(chart, lane, rate), answer_paper(chart, lane, rate)
                for paper, judge, plain in ((plan, is_plan_paper, oracle.is_plan_paper),
                                            (answer, is_answer_paper, oracle.is_answer_paper)):
                    for _ in range(4 if paper else 0):
                        key = draw.pick(sorted(paper))
                        other = {**paper, key: (paper[key][0], paper[key][1] + draw.number(4))}
                        wanted = plain(oracle.tables(chart), lane, rate, other)
                        self.same(judge(chart, lane, rate, other), wanted)
                        seen[wanted] += 1
        self.assertGreater(min(seen.values()), 300, seen)

    def test_never_one_where_the_pace_does_not_let_it(self):
        """All papers of a small box of heights: none shows more than the pace lets."""
        for chart in (CHART, SWAP, several([((0, 0), (1, 1)), ((1, 0),)], [((0, 1),), ((1, 0),)])):
            told = paces(chart)
            for rate in ((0, 1), (1, 2), (1, 3), (2, 3), (1, 1)):
                plans, answers = self.all_papers(chart, 3)
                for lane in (0, 1):
                    for judge, papers, is_let in (
                            (is_plan_paper, plans, Fraction(*told[lane]) <= Fraction(*rate)),
                            (is_answer_paper, answers, Fraction(*told[lane]) >= Fraction(*rate))):
                        found = any([judge(chart, lane, rate, paper) for paper in papers])
                        self.assertTrue(is_let or not found)

    def all_papers(self, chart, most):
        heights = [(i, j) for i in range(most) for j in range(most)]
        tables = oracle.tables(chart)
        plans = [{0: (one, i), 1: (two, j)} for one in tables[0] for two in tables[1] for i, j in heights]
        answers = [{0: (one, i), 1: (two, j)} for one, two in oracle.answers(tables) for i, j in heights]
        return plans, answers


class Bounds(Case):
    def test_example(self):
        self.same(most_behind(CHART, 0, (1, 1), {0: (((0, 1),), 0)}, [7, -3], 10), 17)
        paper = {0: ([0, 1], 0), 1: ([1], 1)}
        self.same([is_answer_paper(CHART, 0, (1, 1), paper), least_behind(CHART, 0, (1, 1), paper, [7, -3], 10)],
                  [True, 6])

    def test_by_going_round(self):
        reached = {"most": 0, "least": 0}
        for chart, draw in drawn_maps(80, 4, 3, (1, 2, 5)):
            for content in drawn_contents(draw, chart.lanes):
                lane = draw.below(chart.lanes)
                rate = draw.pick(rates_of(chart, lane))
                plan, answer = plan_paper(chart, lane, rate), answer_paper(chart, lane, rate)
                told = list(content)
                for many in range(12):
                    if plan is not None:
                        most = self.most(chart, lane, rate, plan, content, many)
                        self.assertLessEqual(told[lane], most)
                        reached["most"] += told[lane] == most
                    if answer is not None:
                        least = self.least(chart, lane, rate, answer, content, many)
                        self.assertGreaterEqual(told[lane], least)
                        reached["least"] += told[lane] == least
                    told = chart(told)
        self.assertGreater(min(reached.values()), 100, reached)

    def most(self, chart, lane, rate, paper, content, many):
        p, q = rate
        high = max(q * content[j] - height for j, (_, height) in paper.items())
        wanted = math.floor(Fraction(many * p + paper[lane][1] + high, q))
        self.same([most_behind(chart, lane, rate, paper, content, many),
                   most_behind(chart, lane, rate, paper, tuple(content), many)], [wanted] * 2)
        return wanted

    def least(self, chart, lane, rate, paper, content, many):
        p, q = rate
        low = min(q * content[j] - height for j, (_, height) in paper.items())
        wanted = math.ceil(Fraction(many * p + paper[lane][1] + low, q))
        self.same([least_behind(chart, lane, rate, paper, content, many),
                   least_behind(chart, lane, rate, paper, tuple(content), many)], [wanted] * 2)
        return wanted

    def test_many_rounds_and_none(self):
        self.same([most_behind(CHART, 0, (1, 1), PLAN, [7, -3], 0), least_behind(CHART, 0, (1, 1), ANSWER, [7, -3], 0)],
                  [7, -4])
        self.same([most_behind(chart=CHART, lane=0, rate=(1, 1), paper=PLAN, content=(HUGE, -HUGE), many=HUGE),
                   least_behind(chart=CHART, lane=0, rate=(1, 1), paper=ANSWER, content=(HUGE, 3), many=HUGE)],
                  [2 * HUGE, 2 + HUGE])
        halves = {0: (((1, 0),), 0), 1: (((0, 1),), 1)}
        self.same([most_behind(SWAP, 0, (1, 2), halves, [0, 0], many) for many in range(6)], [0, 0, 1, 1, 2, 2])
        picks = {0: ([1], 0), 1: ([0], 1)}
        self.same([least_behind(SWAP, 0, (1, 2), picks, [0, 0], many) for many in range(6)], [0, 0, 1, 1, 2, 2])
        self.same([least_behind(SWAP, 1, (1, 2), picks, [0, 0], many) for many in range(6)], [0, 1, 1, 2, 2, 3])
        # Below 0, too, the bounds are the whole numbers within.
        lower = {0: (((1, -9),), 0), 1: (((0, -8),), 1)}
        self.same([most_behind(raised(SWAP, -9), 0, (-17, 2), lower, [0, 0], 3),
                   least_behind(raised(SWAP, -9), 0, (-17, 2), picks, [0, 0], 3)], [-26, -26])
        self.same(least_behind(SWAP, 0, (0, 60), {0: ([1], 0), 1: ([0], 7)}, [0, 0], 3), 0)

    def test_without_limits(self):
        for chart in (SEVEN, WIDE_AND_SPREAD, *SPREADS):
            lane = chart.lanes - 1
            lot = chart[lane].lots()[0]
            chart = chart.with_family(lane, Family([((lane, dict(lot).get(lane, 61)),)]))
            number = chart[lane].lots()[0][0][1]
            plan, answer = {lane: (((lane, number),), 4)}, {lane: ([lane], 4)}
            content = list(range(chart.lanes))
            self.same([most_behind(chart, lane, (number, 1), plan, content, 3),
                       least_behind(chart, lane, (number, 1), answer, content, 3)], [lane + 3 * number] * 2)

    def test_errors_in_their_sequence(self):
        for action, paper in ((most_behind, PLAN), (least_behind, ANSWER)):
            for value in NOT_LANES_OF_TWO:
                self.fails(InvalidLane, {"value": value}, action, CHART, value, None, None, None, None)
            for value in NOT_RATES:
                self.fails(InvalidRate, {"value": value}, action, CHART, 0, value, None, None, None)
            for value in NO_PAPERS + (dict(paper), {**paper, 0: None}):
                if value != paper:
                    self.fails(InvalidPaper, {"value": value}, action, CHART, 0, (1, 1), value, None, None)
            for value in NOT_CONTENTS_OF_TWO:
                self.fails(InvalidContent, {"value": value}, action, CHART, 0, (1, 1), paper, value, None)
            for value in NOT_COUNTS:
                self.fails(InvalidMany, {"value": value}, action, CHART, 0, (1, 1), paper, [0, 0], value)
        self.fails(InvalidPaper, {"value": ANSWER}, most_behind, CHART, 0, (1, 1), ANSWER, [0, 0], 0)
        self.fails(InvalidPaper, {"value": PLAN}, least_behind, CHART, 0, (1, 1), PLAN, [0, 0], 0)
        # A paper of another lane, or of a rate that it does not show, is none.
        self.fails(InvalidPaper, {"value": PLAN}, most_behind, CHART, 1, (1, 1), PLAN, [0, 0], 0)
        self.fails(InvalidPaper, {"value": PLAN}, most_behind, CHART, 0, (0, 1), PLAN, [0, 0], 0)
        self.fails(InvalidPaper, {"value": ANSWER}, least_behind, CHART, 0, (2, 1), ANSWER, [0, 0], 0)
        self.same(least_behind(CHART, 0, (1, 60), ANSWER, [0, 0], 0), 0)

    def test_what_was_passed_stays(self):
        paper = {1: ([1], 1), 0: ([0, 1], 0)}
        least_behind(CHART, 0, (1, 1), paper, [7, -3], 10)
        self.same(paper, {1: ([1], 1), 0: ([0, 1], 0)})
        for value in NOT_INTEGERS:
            self.assertFalse(is_plan_paper(CHART, 0, (1, 1), value))
        self.same(is_plan_paper(Map([Family([((0, 0),)])]), 0, (0, 1), {0: (CoFamily([((0, 0),)]), 0)}), False)
        self.same(is_plan_paper(one_lot(((0, 0),)), 0, (0, 1), {0: (((0, 0),), 0)}), True)

"""lanelots.walks: walks, what they tell, and how far contents are from them (points 81 to 84)."""

from lanelots.errors import InvalidContent, InvalidLane, InvalidMany, InvalidWalk, TooMany
from lanelots.families import Family
from lanelots.maps import Map
from lanelots.pace import is_answer_paper, is_plan_paper, paces
from lanelots.walks import answer_from, far_from, is_walk, plan_from, step_of, walk_of, walked_to
from tests import pace_oracle as oracle
from tests.helpers import (
    HUGE, NO_PAPERS, NOT_CONTENTS_OF_TWO, NOT_COUNTS, NOT_LANES_OF_TWO, NOT_LISTS, Case, drawn_contents,
)
from tests.pace_maps import (
    CHART, FAR_SPREAD, ROUND, SEVEN, SIX, SPREAD, SPREADS, SWAP, TOO_SPREAD, WIDE_AND_SPREAD, drawn_even_maps,
    drawn_maps, one_lot, raised, several, turns,
)

WALK = ([(1, 1), (5, 1)], [0, 1])
NOT_PACES = (None, 1, [1, 1], (1,), (1, 1, 1), (2, 2), (0, 2), (1, 0), (1, -1), (-1, -1), (True, 1), (1, True),
             (None, 1), ("1", 1), (1, "1"), ((1, 1),), ())
# A lane that has the choice between lanes as fast as itself, a slower one, and a faster one.
MANY = several([((0, 1), (1, 0)), ((2, 0),)], [((1, 1), (3, -2))], [((2, 3),)], [((3, 0),)])
SIXTHS = turns(0, 1).beside(turns(0, 0, 1))


def changed_walks(paces_told, content, draw):
    """Walks with one pace or one number otherwise."""
    lane = draw.below(len(content))
    p, q = paces_told[lane]
    more = draw.number(3)
    yield paces_told, content[:lane] + [content[lane] + more] + content[lane + 1:]
    yield paces_told[:lane] + [(p + q, q)] + paces_told[lane + 1:], content
    yield paces_told[:lane] + [(p - q, q)] + paces_told[lane + 1:], content
    yield paces_told, [number + HUGE // 2 for number in content]
    yield paces_told, [2 * number for number in content]


class Judged(Case):
    def test_examples(self):
        chart, walk = Map([Family([((0, 1),), ((1, 0),)]), Family([((1, 5),)])]), ([(1, 1), (5, 1)], [0, 1])
        self.same([is_walk(chart, walk), is_walk(chart, (walk[0], [0, 0])), walked_to(chart, walk, 10),
                   far_from(chart, walk, [7, -3])], [True, False, [10, 51], (-4, 7)])
        self.same([plan_from(chart, walk, 0), answer_from(chart, walk, 0)],
                  [{0: (((0, 1),), 0)}, {0: ([0, 1], 0), 1: ([1], 1)}])

    def test_by_plain_looking(self):
        seen = {True: 0, False: 0}
        for chart, draw in drawn_maps(200):
            told, content = walk_of(chart)
            for own, numbers in changed_walks(told, content, draw):
                wanted = oracle.is_walk(oracle.tables(chart), own, numbers)
                self.same([is_walk(chart, (own, numbers)), is_walk(chart, (tuple(own), tuple(numbers)))], [wanted] * 2)
                seen[wanted] += 1
        self.assertGreater(min(seen.values()), 200, seen)

    def test_all_contents_of_a_small_box(self):
        """With the right paces, and with wrong ones, of which there is no walk."""
        for chart in (CHART, SWAP, several([((0, 0), (1, 1)), ((1, 0),)], [((0, 1),), ((1, 0),)])):
            right = paces(chart)
            for told in (right, [(p + 1, q) for p, q in right], [(p - q, q) for p, q in right], right[::-1]):
                for x in range(-4, 5):
                    wanted = oracle.is_walk(oracle.tables(chart), told, [0, x])
                    self.same(is_walk(chart, (told, [0, x])), wanted)
                    self.assertTrue(told == right or not wanted)

    def test_parts_of_wrong_kinds(self):
        for value in NO_PAPERS + NOT_LISTS + ((WALK,), (*WALK, 0), (WALK[0],), [*WALK], WALK[::-1], {0: WALK}):
            self.same(is_walk(CHART, value), False)
            self.same([is_walk(CHART, (value, [0, 1])), is_walk(CHART, ([(1, 1), value], [0, 1]))], [False, False])
            self.same(is_walk(CHART, ([(1, 1), (5, 1)], value)), False)
        for value in NOT_PACES:
            self.same([is_walk(CHART, ([value, (5, 1)], [0, 1])), is_walk(CHART, ([(1, 1), value], [0, 1]))],
                      [False, False])
        for value in NOT_CONTENTS_OF_TWO:
            self.same(is_walk(CHART, (WALK[0], value)), False)
        self.same([is_walk(CHART, ([(1, 1)], [0, 1])), is_walk(CHART, ([(1, 1), (5, 1), (5, 1)], [0, 1])),
                   is_walk(CHART, ([(1, 1), (10, 2)], [0, 1])), is_walk(CHART, ([(1, 1), [5, 1]], [0, 1]))],
                  [False] * 4)
        self.same([is_walk(CHART, (((1, 1), (5, 1)), (0, 1))), is_walk(chart=CHART, value=WALK)], [True, True])
        self.same(is_walk(CHART, ([(HUGE, HUGE - 1), (1, HUGE)], [0, 1])), False)

    def test_holds_and_picks_are_both_asked(self):
        # By holds alone the first lane may be too low, by picks alone too high.
        chart = several([((0, 0), (1, 0))], [((1, 0),)])
        for low, wanted in ((-1, False), (0, True), (1, True)):
            self.same(is_walk(chart, ([(0, 1)] * 2, [low, 0])), wanted)
        chart = several([((0, 0),), ((1, 0),)], [((1, 0),)])
        for high, wanted in ((-1, True), (0, True), (1, False)):
            self.same(is_walk(chart, ([(0, 1)] * 2, [high, 0])), wanted)
        # What is right from some round on is none: a faster lane must be far enough ahead at once.
        for ahead, wanted in ((0, False), (1, True), (HUGE, True)):
            self.same(is_walk(CHART, ([(1, 1), (5, 1)], [0, ahead])), wanted)
        self.same(is_walk(CHART, ([(5, 1), (5, 1)], [-5, 0])), False)
        # What is high enough must be fast enough, too, and what is low enough slow enough.
        high = several([((0, 1),), ((1, 5), (2, -10))], [((1, 0),)], [((2, 2),)])
        low = several([((0, 1), (1, 5)), ((0, 1), (2, -10))], [((1, 0),)], [((2, 2),)])
        for ahead, wanted in ((0, False), (10, False), (11, True), (HUGE, True)):
            self.same(is_walk(high, ([(1, 1), (0, 1), (2, 1)], [0, 0, ahead])), wanted)
        for behind, wanted in ((0, False), (-3, False), (-4, True), (-HUGE, True)):
            self.same(is_walk(low, ([(1, 1), (0, 1), (2, 1)], [0, behind, 0])), wanted)

    def test_without_limits(self):
        self.same([is_walk(SEVEN, ([(0, 1)] * 7, list(range(7)))), is_walk(Map.same(12), ([(0, 1)] * 12, [HUGE] * 12)),
                   is_walk(TOO_SPREAD, ([(0, 1)] * 2, [61, 0])), is_walk(TOO_SPREAD, ([(0, 1)] * 2, [60, 0])),
                   is_walk(WIDE_AND_SPREAD, ([(0, 1)] + [(61, 1)] * 6, [0] * 7))], [True, True, True, False, True])


class Told(Case):
    def test_drawn_maps(self):
        for chart, draw in list(drawn_maps(250)) + list(drawn_maps(80, 6, 5, (2, 30))) + list(drawn_even_maps(60, 6)):
            walk = walk_of(chart)
            told, content = walk
            self.assertTrue(type(walk) is tuple and type(told) is list and type(content) is list)
            self.same([is_walk(chart, walk), oracle.is_walk(oracle.tables(chart), told, content), told],
                      [True, True, paces(chart)])
            self.assertTrue(all(type(number) is int and abs(number) < 10 ** 9 for number in content))
            self.same(walk_of(chart), walk)
            # With one number added it is one again; all signs changed, it is one of the map turned about.
            self.same(is_walk(chart, (told, [number + HUGE for number in content])), True)

    def test_turned_about(self):
        seen = {True: 0, False: 0}
        for chart, draw in drawn_maps(100):
            told, content = walk_of(chart)
            for own, numbers in [(told, content), *changed_walks(told, content, draw)]:
                wanted = is_walk(chart, (own, numbers))
                self.same(is_walk(-chart, ([(-p, q) for p, q in own], [-number for number in numbers])), wanted)
                seen[wanted] += 1
        self.assertGreater(min(seen.values()), 100, seen)

    def test_where_it_leads(self):
        for chart, _ in drawn_maps(120):
            walk = walk_of(chart)
            common, steps = oracle.common_and_steps(walk[0])
            found = list(walk[1])
            for many in range(12):
                wanted = [number + many * step for number, step in zip(walk[1], steps)]
                self.same([found, walked_to(chart, walk, many)], [wanted] * 2)
                found = oracle.told(oracle.tables(chart), found, common)
            self.same([step_of(chart, walk, lane) for lane in range(chart.lanes)], steps)

    def test_what_comes_later_is_one(self):
        # A content that moves by the paces for ever, and is no walk's: some rounds later it is one's.
        chart = several([((0, 1), (1, 5)), ((0, 1), (2, -10))], [((1, 0),)], [((2, 2),)])
        told = [(1, 1), (0, 1), (2, 1)]
        self.same(paces(chart), told)
        content = [0, 0, 0]
        for many in range(30):
            self.same([content, is_walk(chart, (told, content))], [[many, 0, 2 * many], many >= 4])
            content = chart(content)

    def test_small_ones(self):
        self.same([walk_of(Map.same(1))[0], walk_of(SIX)[0]], [[(0, 1)], [(0, 1)] * 6])
        for chart in (SWAP, ROUND, SIXTHS, MANY, SPREAD, FAR_SPREAD, SIX, turns(60, 0, 60, 0, 0, 0),
                      raised(MANY, -HUGE), one_lot(*[((0, 0), (5, 60))] * 6)):
            self.same(is_walk(chart=chart, value=walk_of(chart=chart)), True)
        self.same([step_of(SIXTHS, walk_of(SIXTHS), lane) for lane in range(5)], [3, 3, 2, 2, 2])

    def test_limits(self):
        for chart in (SEVEN, Map.same(12), WIDE_AND_SPREAD):
            self.fails(TooMany, {"what": "lanes", "limit": 6}, walk_of, chart)
        for chart in SPREADS:
            self.fails(TooMany, {"what": "spread", "limit": 60}, walk_of, chart)

    def test_what_was_told_is_new(self):
        again = walk_of(CHART)
        told = walk_of(CHART)
        told[0].clear()
        told[1][0] = None
        self.same(walk_of(CHART), again)
        walk = ([(1, 1), (5, 1)], [0, 1])
        for action in (plan_from, answer_from):
            action(CHART, walk, 0).clear()
        answer_from(CHART, walk, 0)[0][0].clear()
        walked_to(CHART, walk, 0).append(9)
        self.same(walk, WALK)


class Papers(Case):
    def test_papers_of_walks(self):
        for chart, draw in list(drawn_maps(120)) + list(drawn_maps(40, 6, 4, (5, 30))):
            walk = walk_of(chart)
            told, content = walk
            common, steps = oracle.common_and_steps(told)
            tables = oracle.tables(chart)
            for lane in range(chart.lanes):
                plan, answer = plan_from(chart, walk, lane), answer_from(chart, walk, lane)
                self.same(plan, {j: (oracle.holds(tables, told, content, j)[0], content[j])
                                 for j in range(chart.lanes) if steps[j] <= steps[lane]})
                self.same(answer, {j: ([some[0] for some in oracle.picks(tables, told, content, j)], content[j])
                                   for j in range(chart.lanes) if steps[j] >= steps[lane]})
                rate = (steps[lane], common)
                self.same([is_plan_paper(chart, lane, rate, plan), is_answer_paper(chart, lane, rate, answer)],
                          [True, True])
                self.same([plan_from(chart, (tuple(told), tuple(content)), lane),
                           answer_from(chart, (tuple(told), tuple(content)), lane)], [plan, answer])

    def test_the_first_ones_are_told(self):
        # Several lots hold, and several lanes are picked: the first one of each is told.
        chart = several([((0, 0),), ((1, 0),)], [((0, 0), (1, 0))])
        walk = ([(0, 1), (0, 1)], [0, 0])
        self.same([plan_from(chart, walk, 1), answer_from(chart, walk, 1)],
                  [{0: (((0, 0),), 0), 1: (((0, 0), (1, 0)), 0)}, {0: ([0, 1], 0), 1: ([0], 0)}])
        walk = ([(0, 1), (0, 1)], [-1, 0])
        self.same([plan_from(chart, walk, 0), answer_from(chart=chart, walk=walk, lane=0)],
                  [{0: (((0, 0),), -1), 1: (((0, 0), (1, 0)), 0)}, {0: ([0, 1], -1), 1: ([1], 0)}])

    def test_slower_and_faster_lanes(self):
        walk = walk_of(MANY)
        self.same(walk[0], paces(MANY))
        self.same([list(plan_from(MANY, walk, lane)) for lane in range(4)],
                  [[lane for lane in range(4) if walk[0][lane] <= walk[0][own]] for own in range(4)])
        self.same([list(answer_from(MANY, walk, lane)) for lane in range(4)],
                  [[lane for lane in range(4) if walk[0][lane] >= walk[0][own]] for own in range(4)])


class Far(Case):
    def test_drawn_ones(self):
        for chart, draw in drawn_maps(80):
            walk = walk_of(chart)
            common, _ = oracle.common_and_steps(walk[0])
            for content in drawn_contents(draw, chart.lanes):
                ahead = None
                for many in range(8):
                    told = oracle.behind(oracle.tables(chart), content, many)
                    apart = [common * own - number for own, number in zip(told, walked_to(chart, walk, many))]
                    found = far_from(chart, walk, content, many)
                    self.same([found, far_from(chart, walk, tuple(content), many)], [(min(apart), max(apart))] * 2)
                    if ahead is not None:
                        self.assertTrue(found[0] >= ahead[0] and found[1] <= ahead[1])
                    ahead = found

    def test_rounds(self):
        self.same([far_from(CHART, WALK, [7, -3]), far_from(CHART, WALK, [7, -3], 0),
                   far_from(CHART, WALK, [0, 1], 1000),
                   far_from(chart=CHART, walk=WALK, content=(HUGE, -HUGE), many=1)],
                  [(-4, 7), (-4, 7), (0, 0), (-HUGE - 1, -HUGE - 1)])
        self.same(far_from(CHART, WALK, [7, -3], 1000), (-4, -4))
        for many in (1001, HUGE):
            self.fails(TooMany, {"what": "rounds", "limit": 1000}, far_from, CHART, WALK, [0, 1], many)

    def test_many_rounds_of_a_walk(self):
        self.same(walked_to(CHART, WALK, 0), [0, 1])
        self.same(walked_to(chart=CHART, walk=WALK, many=HUGE), [HUGE, 1 + 5 * HUGE])

    def test_without_limits(self):
        walk = ([(0, 1)] * 7, list(range(7)))
        self.same([step_of(SEVEN, walk, 6), walked_to(SEVEN, walk, 5), far_from(SEVEN, walk, [0] * 7, 3),
                   plan_from(SEVEN, walk, 3)[6], answer_from(SEVEN, walk, 3)[0]],
                  [0, list(range(7)), (-6, 0), (((6, 0),), 6), ([0], 0)])


class Wrong(Case):
    def test_walks(self):
        for action, rest in ((step_of, (None,)), (walked_to, (None,)), (plan_from, (None,)), (answer_from, (None,)),
                             (far_from, (None, None))):
            for value in NO_PAPERS + NOT_PACES + (WALK[0], ([(1, 1), (5, 1)], [0, 0]), ([(5, 1), (1, 1)], [0, 1]),
                                                  ([(1, 1), (10, 2)], [0, 1]), ([(1, 1), (5, 1)], [0, True]),
                                                  ([(True, 1), (5, 1)], [0, 1]), [*WALK], ([(1, 1)], [0]),
                                                  walk_of(SWAP)):
                self.fails(InvalidWalk, {"value": value}, action, CHART, value, *rest)

    def test_parameters_behind_it(self):
        for value in NOT_LANES_OF_TWO:
            for action in (step_of, plan_from, answer_from):
                self.fails(InvalidLane, {"value": value}, action, CHART, WALK, value)
        for value in NOT_COUNTS:
            self.fails(InvalidMany, {"value": value}, walked_to, CHART, WALK, value)
            self.fails(InvalidMany, {"value": value}, far_from, CHART, WALK, [0, 0], value)
        for value in NOT_CONTENTS_OF_TWO:
            self.fails(InvalidContent, {"value": value}, far_from, CHART, WALK, value, None)
            self.fails(InvalidContent, {"value": value}, far_from, CHART, WALK, value)
        self.fails(InvalidMany, {"value": -1}, far_from, CHART, WALK, [0, 0], -1)

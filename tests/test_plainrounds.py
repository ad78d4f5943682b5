"""lanelots.plainrounds: what becomes of all contents by rounds of plain maps (points 63 to 68)."""

import itertools

from lanelots.errors import (
    InvalidContent, InvalidLane, InvalidMany, InvalidOrder, NotFalling, NotPlain, NotRising, OtherLanes, TooMany,
)
from lanelots.families import Family
from lanelots.maps import Map
from lanelots.nets import Net
from lanelots.plainrounds import (
    alike_from, comes, comes_of, content_behind, fallen, held, holders, holding, is_lap, is_settling, laps, map_behind,
    parting_round, ranks, risen, settled, settles, standing, stands,
)
from lanelots.tables import table_of
from lanelots.told import map_of
from tests import flag_oracle as oracle
from tests.helpers import (
    HUGE, NO_PAPERS, NOT_CONTENTS_OF_TWO, NOT_COUNTS, NOT_LANES_OF_TWO, NOT_ORDERS_OF_TWO, Case, drawn_contents,
)
from tests.test_tables import NOT_PLAIN, SIX, TURNS, WIDE_AND_NOT_PLAIN, drawn_plain_maps

# Round three lanes, and round two: comes again every six rounds; two lanes of the one stand still at last.
ROUND = Map([Family([((lane, 0),)]) for lane in (1, 2, 0, 4, 3)])
LATE = map_of(Net(6, [("copy", lane, lane + 1) for lane in range(5)]))
SAME = Map.same(2)
MANY = (0, 1, 2, 3, 7, 12, 59, 60, 61, 10 ** 20, 10 ** 20 + 1, HUGE)


def small_contents(lanes):
    return list(itertools.product(range(3), repeat=lanes))


class Comes(Case):
    def test_example(self):
        turns = Map([Family([((1, 0),)]), Family([((0, 0),)]), Family([((0, 0),), ((1, 0), (2, 0))])])
        self.same([comes(turns), comes_of(turns, [4, 4, 1]), laps(turns), content_behind(turns, [5, 7, 6], 10 ** 20)],
                  [(2, 2), (1, 1), [[(0, 0, 0)], [(0, 1, 0), (1, 0, 0)], [(1, 1, 1)]], [5, 7, 5]])
        self.same([holders(turns, [0, 2, 1], 1), held(turns, 2, 1), ranks(turns)[(1, 0, 1)], risen(turns, [4, 4, 1]),
                   standing(turns)], [[1, 0, 0], [0, 1, 2], 2, [4, 4, 4], [(0, 0, 0), (1, 1, 1)]])

    def test_drawn_ones(self):
        seen = {}
        for chart, draw in drawn_plain_maps(160):
            found = oracle.leading(chart)
            wanted = oracle.first_and_period(found, sorted(found))
            self.same(comes(chart), wanted)
            self.same([settles(chart), settled(chart) is None], [wanted[1] == 1, wanted[1] != 1])
            for content in drawn_contents(draw, chart.lanes) + [draw.content(chart.lanes, 2)]:
                behind = [content]
                while chart(behind[-1]) not in behind:
                    behind.append(chart(behind[-1]))
                first = behind.index(chart(behind[-1]))
                self.same([comes_of(chart, content), comes_of(chart, tuple(content))],
                          [(first, len(behind) - first)] * 2)
            # Only maps that renumber lanes come again at once.
            orders = [lane for family in chart.families() for lane in family.hung()]
            self.same(wanted[0] == 0, sorted(orders) == list(range(chart.lanes)))
            seen[wanted] = seen.get(wanted, 0) + 1
        self.assertGreater(len(seen), 10)

    def test_small_ones(self):
        self.same([comes(ROUND), comes(LATE), comes(Map.same(6)), comes(Map.same(1))], [(0, 6), (5, 1), (0, 1), (0, 1)])
        shift = Map([Family([((max(0, lane - 1), 0),)]) for lane in range(6)])
        self.same([comes(shift), comes_of(shift, [1, 2, 3, 4, 5, 6]), comes_of(shift, [1] * 6)],
                  [(5, 1), (5, 1), (0, 1)])
        self.same([settles(ROUND), settled(ROUND), settles(shift), settled(shift)],
                  [False, None, True, Map([Family([((0, 0),)])] * 6)])
        self.same([comes_of(ROUND, [1, 1, 1, 2, 3]), comes_of(ROUND, [1, 2, 1, 4, 4])], [(0, 2), (0, 3)])

    def test_settled_maps(self):
        for chart, draw in drawn_plain_maps(80):
            told = settled(chart)
            if told is None:
                continue
            first, _ = comes(chart)
            for content in drawn_contents(draw, chart.lanes):
                last = content
                for _ in range(first):
                    last = chart(last)
                self.same([told(content), stands(chart, last)], [last, True])
            self.same(told, map_behind(chart, first + 5))


class Behind(Case):
    def test_drawn_ones(self):
        for chart, draw in drawn_plain_maps(60, 5):
            found = oracle.leading(chart)
            for many in (0, 1, 2, 3):
                self.same(map_behind(chart, many), chart * many)
            for many in MANY:
                told = map_behind(chart, many)
                for content in drawn_contents(draw, chart.lanes)[::2]:
                    wanted = oracle.content_behind(found, content, many)
                    self.same([told(content), content_behind(chart, content, many),
                               content_behind(chart, tuple(content), many)], [wanted] * 3)

    def test_first_and_one_less(self):
        for chart, _ in drawn_plain_maps(100):
            first, period = comes(chart)
            self.same(map_behind(chart, first + period), map_behind(chart, first))
            self.same(map_behind(chart, first + 10 ** 25 * period), map_behind(chart, first))
            for more in range(1, period):
                self.assertNotEqual(map_behind(chart, first + more), map_behind(chart, first))
            if first > 0:
                self.assertNotEqual(map_behind(chart, first - 1 + period), map_behind(chart, first - 1))

    def test_small_ones(self):
        self.same([map_behind(ROUND, 6), map_behind(chart=ROUND, many=10 ** 29 * 6), map_behind(ROUND, 0)],
                  [Map.same(5)] * 3)
        self.same(content_behind(chart=ROUND, content=[1, 2, 3, 4, 5], many=10 ** 28 * 6 + 1), [2, 3, 1, 5, 4])
        self.same(type(content_behind(SAME, (1, 2), 0)), list)


class Laps(Case):
    def test_drawn_ones(self):
        seen = {}
        for chart, _ in drawn_plain_maps(120):
            found = oracle.leading(chart)
            told = laps(chart)
            self.same([told, ranks(chart)], [oracle.all_laps(found),
                                             {flags: oracle.rank(found, flags) for flags in found}])
            self.same([list(ranks(chart)), standing(chart)],
                      [sorted(found), [flags for flags in sorted(found) if found[flags] == flags]])
            for lap in told:
                seen[len(lap)] = seen.get(len(lap), 0) + 1
                for place in range(len(lap)):
                    self.same([is_lap(chart, lap[place:] + lap[:place]),
                               is_lap(chart, tuple(lap[place:] + lap[:place]))],
                              [True, True])
                # Of flags of a lap none are within other ones.
                self.assertFalse(any(oracle.within(one, other) for one in lap for other in lap if one != other))
                for spoiled in (lap + lap, lap[:-1], lap[1:], lap + lap[:1], [list(flags) for flags in lap],
                                lap + [None]):
                    self.same(is_lap(chart, spoiled), False)
                self.same(is_lap(chart, lap[::-1]), len(lap) < 3)
            self.same(max(ranks(chart).values()), comes(chart)[0])
            self.same(settles(chart), all(len(lap) == 1 for lap in told))
        self.assertGreater(len(seen), 3, seen)

    def test_judged(self):
        for value, wanted in (
            ([(0, 1, 0), (1, 0, 0)], True), ([(1, 0, 0), (0, 1, 0)], True), ([(0, 0, 0)], True), (((1, 1, 1),), True),
            ([], False), ((), False), ([(0, 1, 0)], False), ([(0, 1, 1), (1, 0, 0)], False),
            ([(0, 0, 0), (0, 0, 0)], False),
            ([(0, 1, 0), (1, 0, 0), (0, 1, 0), (1, 0, 0)], False), ([(0, 0)], False), ([(0, 0, 0, 0)], False),
            ([(False, 0, 0)], False), ([(1, 1, True)], False), ([[0, 0, 0]], False), ([(0, 0, None)], False),
            ([(0, 0, 0), (1, 1, 1)], False), ({(0, 0, 0): 0}, False), ((0, 0, 0), False), ([(2, 2, 2)], False),
        ):
            self.same(is_lap(TURNS, value), wanted)
        for value in NO_PAPERS:
            self.same([is_lap(TURNS, value), is_lap(SAME, value), is_lap(SAME, [value])],
                      [False, False, repr(value) == "(0, 0)"])


class Settling(Case):
    def test_drawn_ones(self):
        seen = {True: 0, False: 0}
        for chart, draw in drawn_plain_maps(100, 4):
            found, (first, period) = oracle.leading(chart), comes(chart)
            counts = ranks(chart)
            for many in (first - 1, first, first + 1, HUGE):
                if many >= 0:
                    self.same(is_settling(chart, many, counts), period == 1 and many >= first)
            for _ in range(8):
                flags = draw.pick(sorted(found))
                changed = {**counts, flags: max(0, counts[flags] + draw.pick((-1, 1, 2)))}
                many = first + draw.below(3)
                wanted = oracle.is_settling(found, many, changed)
                seen[wanted] += 1
                self.same(is_settling(chart, many, changed), wanted)
            higher = {flags: 3 * counts[flags] for flags in reversed(sorted(found))}
            self.same(is_settling(chart, 3 * first, higher), period == 1)
        self.assertGreater(min(seen.values()), 30, seen)

    def test_judged(self):
        low = map_of(Net(2, [("low", 0, 1)]))
        right = {(0, 0): 0, (0, 1): 0, (1, 0): 1, (1, 1): 0}
        for many, value, wanted in (
            (1, right, True), (0, right, False), (HUGE, right, True), (1, {**right, (1, 0): 2}, False),
            (2, {**right, (1, 0): 2}, True), (1, {**right, (1, 0): 0}, False), (1, {**right, (0, 1): 1}, False),
            (1, {**right, (1, 0): True}, False), (1, {**right, (0, 0): False}, False),
            (1, {**right, (1, 0): -1}, False),
            (1, {**right, (1, 0): None}, False), (1, {**right, (1, 0): "1"}, False), (1, {**right, (2, 0): 1}, False),
            (1, {(0, 0): 0, (0, 1): 0, (1, 0): 1}, False), (1, list(right.items()), False), (1, {}, False),
            (1, {(0, 0): 0, (0, 1): 0, (True, 0): 1, (1, 1): 0}, False), (9, {**right, (0, 1): 9}, False),
            (1, {(False, 0): 0, (0, 1): 0, (1, 0): 1, (1, 1): 0}, False), (1, {**right, None: 0}, False),
            (1, {(1, 1): 0, (1, 0): 1, (0, 1): 0, (0, 0): 0}, True),
            (1, {(0, 0): 0, (0, 1): 0, (1, 0): 1, "11": 0}, False),
        ):
            self.same(is_settling(low, many, value), wanted)
        self.same(is_settling(chart=SAME, many=0, value={flags: 0 for flags in oracle.flags_of(2)}), True)
        for value in NO_PAPERS:
            self.same([is_settling(low, 1, value), is_settling(Map.same(1), 0, value)], [False, False])
        self.same(is_settling(ROUND, HUGE, ranks(ROUND)), False)


class Standing(Case):
    def test_contents_that_stand(self):
        for chart, draw in drawn_plain_maps(60, 5):
            led = oracle.leading(chart)
            for content in drawn_contents(draw, chart.lanes):
                wanted = chart(content) == content
                self.same([stands(chart, content), stands(chart, tuple(content))], [wanted, wanted])
                flags = [oracle.flags_at(content, number) for number in content]
                self.same(wanted, all(led[own] == own for own in flags))
            self.same(stands(chart, [7] * chart.lanes), True)

    def test_risen_and_fallen(self):
        seen = {"up": 0, "down": 0, "neither": 0}
        for chart, _ in drawn_plain_maps(60, 4):
            contents = small_contents(chart.lanes)
            all_standing = [own for own in contents if chart(own) == list(own)]
            for content in contents[::3]:
                told = chart(content)
                lowered = [lane for lane in range(chart.lanes) if told[lane] < content[lane]]
                greater = [lane for lane in range(chart.lanes) if told[lane] > content[lane]]
                seen["neither"] += bool(lowered and greater)
                if lowered:
                    self.fails(NotRising, {"lane": lowered[0]}, risen, chart, content)
                else:
                    seen["up"] += bool(greater)
                    above = [own for own in all_standing if all(map(int.__ge__, own, content))]
                    self.same(risen(chart, content), [min(lane) for lane in zip(*above)])
                if greater:
                    self.fails(NotFalling, {"lane": greater[0]}, fallen, chart, list(content))
                else:
                    seen["down"] += bool(lowered)
                    below = [own for own in all_standing if all(map(int.__le__, own, content))]
                    self.same(fallen(chart, content), [max(lane) for lane in zip(*below)])
        self.assertGreater(min(seen.values()), 60, seen)

    def test_as_many_rounds_as_lanes(self):
        # One lane after the other rises, falls.
        up = Map([Family([((0, 0),)])] + [Family([((lane - 1, 0), (lane, 0))]) for lane in range(1, 6)])
        down = Map([Family([((0, 0),)])] + [Family([((lane - 1, 0),), ((lane, 0),)]) for lane in range(1, 6)])
        self.same([risen(up, [HUGE, 1, 2, 3, 4, 5]), fallen(down, [-HUGE, 1, 2, 3, 4, 5])], [[HUGE] * 6, [-HUGE] * 6])
        self.fails(NotFalling, {"lane": 1}, fallen, up, [HUGE, 1, 2, 3, 4, 5])
        self.fails(NotRising, {"lane": 1}, risen, down, [-HUGE, 1, 2, 3, 4, 5])
        self.same([risen(SAME, (1, 2)), fallen(SAME, (1, 2))], [[1, 2], [1, 2]])


class Orders(Case):
    def test_drawn_ones(self):
        for chart, draw in drawn_plain_maps(60, 4):
            for many in (0, 1, 2, 5, 10 ** 20):
                orders = list(itertools.permutations(range(chart.lanes)))
                told = [holders(chart, list(order), many) for order in orders]
                for order, own in zip(orders, told):
                    content = [0] * chart.lanes
                    for lane in range(chart.lanes):
                        content[order[lane]] = 100 * lane + draw.below(100)
                    self.same([content[lane] for lane in own], content_behind(chart, content, many))
                for lane in range(chart.lanes):
                    wanted = sorted({own[lane] for own in told})
                    self.same(held(chart, lane, many), wanted)
                    self.shows(chart, lane, many, wanted)

    def shows(self, chart, lane, many, wanted):
        for other in range(chart.lanes):
            order = holding(chart, lane, other, many)
            self.same(order is not None, other in wanted)
            if order is not None:
                self.same([sorted(order), type(order)], [list(range(chart.lanes)), list])
                self.same(holders(chart, order, many)[lane], other)

    def test_small_ones(self):
        self.same([holders(chart=TURNS, order=(0, 2, 1), many=0), held(chart=TURNS, lane=2, many=0)], [[0, 1, 2], [2]])
        self.same([holding(TURNS, 2, 2, 2), holding(TURNS, 0, 0, 1), holding(chart=SAME, lane=0, other=1, many=3)],
                  [None] * 3)
        self.same([holders(ROUND, [4, 3, 2, 1, 0], HUGE), held(ROUND, 3, HUGE)], [[0, 1, 2, 4, 3], [4]])
        six = map_of(Net(6, [("low", 0, lane) for lane in range(1, 6)]))
        self.same([held(six, 0, 1), holding(six, 0, 5, HUGE)[0], type(holders(six, [0, 1, 2, 3, 4, 5], 1))],
                  [[0, 1, 2, 3, 4, 5], 5, list])


class Alike(Case):
    def test_drawn_ones(self):
        seen = {}
        for chart, draw in drawn_plain_maps(250, 3):
            other = self.other(chart, draw)
            first = max(comes(chart)[0], comes(other)[0])
            period = comes(chart)[1] * comes(other)[1]
            alike = [map_behind(chart, many) == map_behind(other, many) for many in range(first + 2 * period + 2)]
            wanted = None
            if all(alike[first:]):
                wanted = min(many for many in range(first + 1) if all(alike[many:]))
            self.same([alike_from(chart, other), alike_from(other, chart)], [wanted, wanted])
            seen[wanted] = seen.get(wanted, 0) + 1
            told = parting_round(chart, other)
            self.same(told is None, wanted is not None)
            if told is not None:
                many = [own for own in range(first, len(alike)) if not alike[own]][0]
                ones, others = oracle.leading(chart), oracle.leading(other)
                flags = [own for own in sorted(ones) if oracle.gone(ones, own, many) != oracle.gone(others, own, many)]
                self.same(told, (many, flags[0]))
                self.assertIn(many, (first, first + 1))
        # From one round on they would be the same map, so alike from 0 on.
        self.assertTrue({None, 0, 2}.issubset(seen) and 1 not in seen, seen)

    def other(self, chart, draw):
        """A map of as many lanes: another one, one with another family, one that is alike at last."""
        way = draw.below(4)
        if way == 0:
            return draw.chart(3, chart.lanes, 0)
        if way == 1:
            return chart.with_family(draw.below(chart.lanes), draw.family(2, chart.lanes, 0))
        return map_behind(chart, comes(chart)[0] + way - 1) if way == 2 or settles(chart) else chart

    def test_small_ones(self):
        shift = Map([Family([((max(0, lane - 1), 0),)]) for lane in range(6)])
        self.same([alike_from(shift, Map([Family([((0, 0),)])] * 6)),
                   parting_round(shift, Map([Family([((0, 0),)])] * 6))],
                  [5, None])
        self.same([alike_from(one=shift, other=Map.same(6)), parting_round(one=shift, other=Map.same(6))],
                  [None, (5, (0, 0, 0, 0, 0, 1))])
        swap = Map([Family([((1, 0),)]), Family([((0, 0),)])])
        # Alike behind the first one, and no longer behind one round more.
        self.same([alike_from(swap, SAME), parting_round(swap, SAME), parting_round(SAME, swap)],
                  [None, (1, (0, 1)), (1, (0, 1))])
        self.same([alike_from(ROUND, ROUND), parting_round(ROUND, ROUND)], [0, None])
        self.same(alike_from(Map.same(1), Map.same(1)), 0)

    def test_errors(self):
        for action in (alike_from, parting_round):
            for one, other in ((1, 2), (6, 1)):
                self.fails(OtherLanes, {"one": one, "other": other}, action, Map.same(one), Map.same(other))
            self.fails(NotPlain, {"lane": 1}, action, NOT_PLAIN, Map.same(7))
            self.fails(TooMany, SIX, action, Map.same(7), NOT_PLAIN)
            self.fails(NotPlain, {"lane": 1}, action, Map.same(2), NOT_PLAIN)
            self.fails(TooMany, SIX, action, Map.same(2), Map.same(12))
            self.fails(NotPlain, {"lane": 6}, action, WIDE_AND_NOT_PLAIN, Map.same(2))


class Errors(Case):
    # Each function with right parameters, told the map alone.
    ACTIONS = (
        comes, settles, settled, laps, ranks, standing, lambda chart: comes_of(chart, [0] * chart.lanes),
        lambda chart: map_behind(chart, 3), lambda chart: content_behind(chart, [0] * chart.lanes, 3),
        lambda chart: is_lap(chart, None), lambda chart: is_settling(chart, 3, None),
        lambda chart: stands(chart, [0] * chart.lanes), lambda chart: risen(chart, list(range(chart.lanes))),
        lambda chart: fallen(chart, list(range(chart.lanes))), lambda chart: holders(chart, list(range(chart.lanes)),
                                                                                     3),
        lambda chart: held(chart, 0, 3), lambda chart: holding(chart, 0, chart.lanes - 1, 3),
    )

    def test_plain_maps_of_few_lanes(self):
        for chart, kind, attributes in (
            (NOT_PLAIN, NotPlain, {"lane": 1}), (Map.same(7), TooMany, SIX), (Map.same(12), TooMany, SIX),
            (WIDE_AND_NOT_PLAIN, NotPlain, {"lane": 6}), (Map([Family([((0, -HUGE),)])]), NotPlain, {"lane": 0}),
        ):
            for action in self.ACTIONS:
                self.fails(kind, attributes, action, chart)
        for action in self.ACTIONS:
            action(Map.same(6))
            action(Map.same(1))

    def test_ahead_of_rising_and_falling(self):
        lower = Map([Family([((0, 0), (1, 0)), ((0, -5),)]), Family([((0, 0),)])])
        for action in (risen, fallen):
            self.fails(NotPlain, {"lane": 0}, action, lower, [1, 2])
            self.fails(TooMany, SIX, action, Map([Family([((1, 0),)]), Family([((0, 0),)])] * 4), [1, 2] * 4)

    def test_contents(self):
        for action in (comes_of, stands, risen, fallen, lambda chart, content: content_behind(chart, content, None)):
            for value in NOT_CONTENTS_OF_TWO:
                if repr(value) not in ("[1, 2]", "(1, 2)"):
                    self.fails(InvalidContent, {"value": value}, action, SAME, value)
            self.fails(InvalidContent, {"value": [1, 2]}, action, NOT_PLAIN, [1, 2])
            self.fails(InvalidContent, {"value": [1, 2]}, action, Map.same(7), [1, 2])

    def test_many(self):
        for value in NOT_COUNTS:
            for action in (lambda many: map_behind(NOT_PLAIN, many), lambda many: content_behind(SAME, [1, 2], many),
                           lambda many: is_settling(Map.same(7), many, None), lambda many: holders(SAME, [0, 1], many),
                           lambda many: held(NOT_PLAIN, 0, many), lambda many: holding(SAME, 0, 1, many)):
                self.fails(InvalidMany, {"value": value}, action, value)

    def test_orders_and_lanes(self):
        for value in NOT_ORDERS_OF_TWO:
            self.fails(InvalidOrder, {"value": value}, holders, SAME, value, None)
        for value in NOT_LANES_OF_TWO:
            self.fails(InvalidLane, {"value": value}, held, SAME, value, None)
            self.fails(InvalidLane, {"value": value}, holding, SAME, value, None, None)
            self.fails(InvalidLane, {"value": value}, holding, SAME, 0, value, None)
        self.fails(InvalidOrder, {"value": [0, 1]}, holders, NOT_PLAIN, [0, 1], None)

    def test_changed_afterwards(self):
        laps(TURNS)[1].append(None)
        ranks(TURNS).clear()
        standing(TURNS).pop()
        self.same([len(laps(TURNS)[1]), len(ranks(TURNS)), len(standing(TURNS))], [2, 8, 2])
        content = [4, 4, 1]
        told = [risen(TURNS, content), content_behind(TURNS, content, 0)]
        content[0] = 9
        self.same(told, [[4, 4, 4], [4, 4, 1]])
        self.same(table_of(TURNS), [led for _, led in sorted(oracle.leading(TURNS).items())])

"""lanelots.tables: flags, and the tables of plain maps (points 61 and 62)."""

import itertools

from lanelots.errors import (
    InvalidContent, InvalidFlags, InvalidLane, InvalidNumber, InvalidTable, NotPlain, TooMany,
)
from lanelots.families import CoFamily, Family
from lanelots.maps import Map
from lanelots.nets import Net
from lanelots.tables import flags_at, greatest_flags, is_table, least_flags, led, map_by, table_of
from lanelots.told import map_of
from tests import flag_oracle as oracle
from tests.helpers import (
    HUGE, NO_PAPERS, NOT_FLAGS_OF_TWO, NOT_INTEGERS, NOT_LANES_OF_TWO, NOT_LISTS, Case, Draw, drawn_contents,
)

TURNS = Map([Family([((1, 0),)]), Family([((0, 0),)]), Family([((0, 0),), ((1, 0), (2, 0))])])
SIX = {"what": "lanes", "limit": 6}
NOT_PLAIN = Map([Family([((0, 0),)]), Family([((0, 0),), ((1, -1),)]), Family([((0, 2),)])])
WIDE_AND_NOT_PLAIN = Map(Map.same(7).families()[:6] + [Family([((6, HUGE),)])])


def drawn_plain_maps(times, lanes=6):
    """Plain maps of few and of many lots, such that renumber lanes, such that tell what plain nets tell."""
    for seed in range(times):
        draw = Draw(seed + 31)
        wide = 1 + draw.below(lanes)
        way = draw.below(4)
        if way == 0:
            chart = Map([Family([((lane, 0),)]) for lane in draw.order(wide)])
        elif way == 1:
            chart = map_of(draw.net(wide, draw.below(8), ("low", "high", "sort", "copy")) if wide > 1 else Net(1))
        elif way == 2:
            chart = Map([Family([((draw.below(wide), 0),)]) for _ in range(wide)])
        else:
            chart = draw.chart(5, wide, 0)
        yield chart, draw


class Flags(Case):
    def test_example(self):
        turns = Map([Family([((1, 0),)]), Family([((0, 0),)]), Family([((0, 0),), ((1, 0), (2, 0))])])
        self.same([flags_at([5, 7, 6], 6), led(turns, (0, 1, 1)), least_flags(turns, 2), greatest_flags(turns, 2),
                   map_by(table_of(turns)) == turns],
                  [(0, 1, 1), (1, 0, 0), [(1, 0, 1), (1, 1, 0)], [(0, 1, 1), (1, 0, 0)], True])

    def test_flags_at(self):
        for content, number, wanted in (([5, 7, 6], 7, (0, 1, 0)), ([5, 7, 6], 8, (0, 0, 0)), ([5, 7, 6], 5, (1, 1, 1)),
                                        ((5, 7, 6), 6, (0, 1, 1)), ([HUGE], HUGE, (1,)), ([-HUGE], 0, (0,)),
                                        ([3] * 12, 3, (1,) * 12), ([0, -1] * 6, 0, (1, 0) * 6)):
            self.same(flags_at(content, number), wanted)
        self.same(flags_at(content=[1, 2], number=2), (0, 1))
        for value in NOT_LISTS + ([], (), [True], [None], ["1"], [[1]], [0] * 13, (0,) * 13):
            self.fails(InvalidContent, {"value": value}, flags_at, value, None)
        for value in NOT_INTEGERS:
            self.fails(InvalidNumber, {"value": value}, flags_at, [1, 2], value)

    def test_led_as_contents_are(self):
        for chart, draw in drawn_plain_maps(80):
            found = oracle.leading(chart)
            for flags in found:
                self.same(led(chart, flags), found[flags])
            for content in drawn_contents(draw, chart.lanes):
                told = chart(content)
                for number in content + [min(content) - 1, max(content) + 1]:
                    self.same(led(chart, flags_at(content, number)), flags_at(told, number))

    def test_least_and_greatest(self):
        for chart, draw in drawn_plain_maps(80):
            found = oracle.leading(chart)
            for lane in range(chart.lanes):
                ones = [flags for flags in sorted(found) if found[flags][lane] == 1]
                zeros = [flags for flags in sorted(found) if found[flags][lane] == 0]
                self.same(least_flags(chart, lane), [flags for flags in ones if not any(
                    oracle.within(other, flags) for other in ones if other != flags)])
                self.same(greatest_flags(chart, lane), [flags for flags in zeros if not any(
                    oracle.within(flags, other) for other in zeros if other != flags)])
                self.lots(chart, lane)

    def lots(self, chart, lane):
        """The lots and the co-lots of the lane can be seen at these flags."""
        lots = [tuple((own, 0) for own in range(chart.lanes) if flags[own] == 0) for flags in greatest_flags(chart,
                                                                                                             lane)]
        co_lots = [tuple((own, 0) for own in range(chart.lanes) if flags[own]) for flags in least_flags(chart, lane)]
        self.same([Family(lots), CoFamily(co_lots)], [chart[lane], ~chart[lane]])
        self.same([len(lots), len(co_lots)], [len(chart[lane]), len(~chart[lane])])


class Tables(Case):
    def test_drawn_ones(self):
        for chart, draw in drawn_plain_maps(80):
            table, found = table_of(chart), oracle.leading(chart)
            self.same([table, type(table)], [[found[flags] for flags in sorted(found)], list])
            self.same([is_table(table), is_table(tuple(table))], [True, True])
            self.same([map_by(table), map_by(tuple(table))], [chart, chart])
            other = draw.chart(3, chart.lanes, 0)
            self.same(table_of(other) == table, other == chart)
            for _ in range(6):
                place, lane = draw.below(len(table)), draw.below(chart.lanes)
                flags = table[place]
                changed = table[:place] + [flags[:lane] + (1 - flags[lane],) + flags[lane + 1:]] + table[place + 1:]
                wanted = (oracle.is_monotone(chart.lanes, changed) and changed[0] == (0,) * chart.lanes
                          and changed[-1] == (1,) * chart.lanes)
                self.same(is_table(changed), wanted)
                if wanted:
                    self.same(table_of(map_by(changed)), changed)
                else:
                    self.fails(InvalidTable, {"value": changed}, map_by, changed)

    def test_all_of_one_and_two_lanes(self):
        for lanes in (1, 2):
            good = []
            for table in itertools.product(oracle.flags_of(lanes), repeat=2 ** lanes):
                wanted = (oracle.is_monotone(lanes, table) and table[0] == (0,) * lanes and table[-1] == (1,) * lanes)
                self.same(is_table(list(table)), wanted)
                if wanted:
                    good.append(map_by(table))
            # A lane tells one of both lanes, the lesser or the greater one of them.
            self.same([len(good), all(one != two for one, two in itertools.combinations(good, 2))],
                      [1 if lanes == 1 else 16, True])

    def test_small_ones(self):
        self.same([table_of(Map.same(1)), table_of(Map.same(2))], [[(0,), (1,)], [(0, 0), (0, 1), (1, 0), (1, 1)]])
        self.same(table_of(map_of(Net(2, [("sort", 0, 1)]))), [(0, 0), (0, 1), (0, 1), (1, 1)])
        self.same(map_by(table=[(0, 0), (0, 0), (0, 0), (1, 1)]), Map([Family([((0, 0),), ((1, 0),)])] * 2))
        self.same([len(table_of(Map.same(6))), map_by(table_of(Map.same(6)))], [64, Map.same(6)])

    def test_judged(self):
        right = [(0, 0), (0, 1), (1, 0), (1, 1)]
        for value, wanted in (
            (right, True), ([(0, 0), (0, 0), (1, 1), (1, 1)], True), (right[:3], False), (right + right[:1], False),
            ([(0, 0), (0, 1), (1, 0), (1, 0)], False), ([(0, 1), (0, 1), (1, 1), (1, 1)], False),
            ([(1, 0), (1, 1), (1, 0), (1, 1)], False), ([(0, 0), (1, 1), (1, 0), (0, 1)], False),
            ([(0,), (0,), (1,), (1,)], False), ([(0, 0), (0, True), (1, 0), (1, 1)], False), ([(0, 0)] * 4, False),
            ([(0, 0), [0, 1], (1, 0), (1, 1)], False), ([(0, 0), (0, 2), (1, 0), (1, 1)], False), ([(1, 1)] * 4, False),
            ([(False, 0), (0, 1), (1, 0), (1, 1)], False), ([(0, 0), None, (1, 0), (1, 1)], False), ([()], False),
            ([(0, 0, 0), (0, 1, 0), (1, 0, 0), (1, 1, 0)], False), ({0: (0, 0)}, False),
            (dict(enumerate(right)), False),
            ([(0,), (1,)], True), (((0,), (1,)), True), ([(1,), (1,)], False), ([(0,), (0,)], False),
            ([(1,), (0,)], False),
            ([], False), ((), False), ([(0,) * 7] * 127 + [(1,) * 7], False), (right * 4, False),
            ([(0, 0), (0, 1, 0), (1, 0), (1, 1)], False), ([(0, 0), ("0", 1), (1, 0), (1, 1)], False),
        ):
            self.same(is_table(value), wanted)
            if not wanted:
                self.fails(InvalidTable, {"value": value}, map_by, value)
        for value in NO_PAPERS:
            self.same(is_table(value), False)
            self.fails(InvalidTable, {"value": value}, map_by, value)
            self.same(is_table([(0,), value]), False)
        seven = [tuple(flags) for flags in oracle.flags_of(7)]
        self.same(is_table(seven), False)
        self.fails(InvalidTable, {"value": seven}, map_by, seven)


class Errors(Case):
    def test_flags(self):
        for value in NOT_FLAGS_OF_TWO:
            self.fails(InvalidFlags, {"value": value}, led, Map.same(2), value)
        for value in ((0, 0), (0, 1), (1, 0), (1, 1)):
            self.same(led(Map.same(2), value), value)
        self.fails(InvalidFlags, {"value": (0, 1)}, led, NOT_PLAIN, (0, 1))
        self.fails(InvalidFlags, {"value": (0,) * 6}, led, Map.same(7), (0,) * 6)

    def test_lanes(self):
        for action in (least_flags, greatest_flags):
            for value in NOT_LANES_OF_TWO:
                self.fails(InvalidLane, {"value": value}, action, Map.same(2), value)
            self.fails(InvalidLane, {"value": 3}, action, NOT_PLAIN, 3)
            self.fails(InvalidLane, {"value": 7}, action, Map.same(7), 7)

    def test_plain_maps_of_few_lanes(self):
        for chart, kind, attributes in (
            (NOT_PLAIN, NotPlain, {"lane": 1}), (Map.same(7), TooMany, SIX), (Map.same(12), TooMany, SIX),
            (WIDE_AND_NOT_PLAIN, NotPlain, {"lane": 6}), (Map([Family([((0, HUGE),)])]), NotPlain, {"lane": 0}),
        ):
            self.fails(kind, attributes, table_of, chart)
            self.fails(kind, attributes, led, chart, (0,) * chart.lanes)
            self.fails(kind, attributes, least_flags, chart, 0)
            self.fails(kind, attributes, greatest_flags, chart, chart.lanes - 1)

    def test_changed_afterwards(self):
        table = table_of(TURNS)
        chart = map_by(table)
        table[0] = None
        table.append(1)
        least_flags(TURNS, 2).append(None)
        greatest_flags(TURNS, 2).clear()
        self.same([chart, map_by(table_of(TURNS))], [TURNS, TURNS])
        self.same([least_flags(TURNS, 2), greatest_flags(TURNS, 2)], [[(1, 0, 1), (1, 1, 0)], [(0, 1, 1), (1, 0, 0)]])

"""lanelots.heads: what maps tell at ceilings and floors, heads and feet, also back through rounds (51 to 53, 59)."""

from lanelots.errors import InvalidMany, InvalidRow, TooMany
from lanelots.families import Family
from lanelots.heads import at_ceiling, at_floor, feet, heads, heads_back, is_foot, is_head
from lanelots.maps import Map
from tests import row_oracle as oracle
from tests.helpers import HUGE, NO_PAPERS, NOT_COUNTS, NOT_ROWS_OF_TWO, Case, Draw, antichain
from tests.test_maps import drawn_charts

CHART = Map([Family([((0, 2),), ((1, 2),)]), Family([((1, 0),)])])
ROWS, ROUNDS = {"what": "rows", "limit": 200}, {"what": "rounds", "limit": 40}
SAME = Map.same(2)


def tables(chart):
    return [family.lots() for family in chart.families()]


def negative(row):
    return [None if number is None else -number for number in row]


def many_feet(steps, wide, lanes=6):
    """A map that has (steps + 1) * wide feet for a floor of 0 on its first three lanes."""
    stairs = antichain(steps)
    families = [Family(stairs[::2]), Family(stairs[1::2]), Family([tuple((2 + lane, 0) for lane in range(wide))])]
    # Whatever is high enough for the next lane is high enough for the lanes ahead of it.
    narrow = Family([((lane, -1000),) for lane in range(lanes)])
    return Map(families + [narrow] * (lanes - 3))


FLOOR = [0, 0, 0, None, None, None]
TWO_HUNDRED, MORE = many_feet(49, 4), many_feet(66, 3)


class Told(Case):
    def test_small_ones(self):
        chart = Map([Family([((0, 1), (1, 0)), ((2, 5),)]), Family([((1, 0),)]), Family([((0, 0),), ((2, -1),)])])
        for row, ceiling, floor in (
            ([1, 2, 3], [2, 2, 1], [2, 2, 1]), ([1, None, 3], [8, None, 1], [2, None, 1]),
            ([None, 2, None], [None, 2, None], [None, 2, None]), ([None, 2, 9], [14, 2, 8], [2, 2, None]),
            ([4, 9, None], [9, 9, 4], [None, 9, None]), ([None] * 3, [None] * 3, [None] * 3),
            ((4, None, None), [None, None, 4], [None, None, None]),
        ):
            self.same([at_ceiling(chart, row), at_floor(chart, row)], [ceiling, floor])
        self.same([at_ceiling(chart=SAME, row=[None, HUGE]), at_floor(chart=SAME, row=[None, HUGE])],
                  [[None, HUGE]] * 2)

    def test_drawn_ones(self):
        for families, draw in drawn_charts(150, 4, 5):
            chart, lanes = Map(families), len(families)
            for most in (3, HUGE):
                row = draw.row(lanes, most)
                ceiling, floor = at_ceiling(chart, row), at_floor(chart, row)
                self.same([ceiling, floor, at_ceiling(chart, tuple(row)), at_floor(chart, tuple(row))],
                          [oracle.at_ceiling(tables(chart), row), oracle.at_floor(tables(chart), row)] * 2)
                self.leads_there(chart, row, ceiling, floor, draw)

    def leads_there(self, chart, row, ceiling, floor, draw):
        """What lies below goes below, what lies above goes above; and where it is far off, just there."""
        far = 10 ** 33
        for _ in range(4):
            off = [draw.below(5) for _ in row]
            low = [draw.number(9) if number is None else number - less for number, less in zip(row, off)]
            high = [draw.number(9) if number is None else number + more for number, more in zip(row, off)]
            self.assertTrue(oracle.below(chart(low), ceiling) and oracle.above(chart(high), floor))
        up = chart([far if number is None else number for number in row])
        down = chart([-far if number is None else number for number in row])
        for lane in range(chart.lanes):
            if ceiling[lane] is not None:
                self.same(up[lane], ceiling[lane])
            if floor[lane] is not None:
                self.same(down[lane], floor[lane])

    def test_a_map_turned_about(self):
        for families, draw in drawn_charts(60, 3, 4):
            chart, row = Map(families), draw.row(len(families), 4)
            self.same(at_floor(chart, row), negative(at_ceiling(-chart, negative(row))))

    def test_wrong_rows(self):
        for value in NOT_ROWS_OF_TWO:
            for action in (lambda: at_ceiling(SAME, value), lambda: at_floor(SAME, value), lambda: heads(SAME, value),
                           lambda: feet(SAME, value), lambda: is_head(SAME, value, None),
                           lambda: is_foot(SAME, value, None), lambda: heads_back(SAME, value, None)):
                self.fails(InvalidRow, {"value": value}, action)


class HeadsAndFeet(Case):
    def test_example(self):
        chart = Map([Family([((0, 2),), ((1, 2),)]), Family([((1, 0),)])])
        self.same((heads(chart, [5, 3]), feet(chart, [5, 3])), ([[None, 3]], [[3, 3]]))

    def test_small_ones(self):
        both, low = Family([((0, 0), (1, 0))]), Family([((0, 1),), ((1, 0),)])
        for families, row, wanted_heads, wanted_feet in (
            ([both, both], [3, None], [[3, 3]], [[None, 3], [3, None]]),
            ([both, both], [3, 2], [[2, 2]], [[None, 3], [3, None]]),
            ([low, low], [3, None], [[None, 3], [2, None]], [[2, 3]]),
            ([low, both], [3, 5], [[2, 5], [5, 3]], [[2, 5], [5, 3]]),
            ([low, low], [None, None], [[None, None]], [[None, None]]),
            ([low, low], (None, 3), [[None, 3], [2, None]], [[2, 3]]),
        ):
            self.same([heads(Map(families), row), feet(Map(families), row)], [wanted_heads, wanted_feet])
        self.same([heads(chart=SAME, row=[None, 4]), feet(chart=SAME, row=[None, 4])], [[[None, 4]]] * 2)
        self.same([heads(Map.same(12), [HUGE] * 12), feet(Map.same(12), [-HUGE] * 12)], [[[HUGE] * 12], [[-HUGE] * 12]])

    def test_drawn_ones(self):
        for families, draw in drawn_charts(200, 4, 5):
            chart, lanes = Map(families), len(families)
            row = draw.row(lanes, draw.pick((2, 6, HUGE))) if draw.below(4) else [draw.pick((None, 3))] * lanes
            tops, bottoms = heads(chart, row), feet(chart, row)
            self.same([tops, bottoms],
                      [oracle.ladder(tables(chart), row)[-1], oracle.feet_by_lanes(tables(chart), row)[-1]])
            self.same([heads(chart, tuple(row)), feet(chart, tuple(row))], [tops, bottoms])
            self.same(bottoms, sorted([negative(own) for own in heads(-chart, negative(row))], key=oracle.key))
            self.judged(chart, row, tops, bottoms, draw)

    def judged(self, chart, row, tops, bottoms, draw):
        for own in tops + bottoms + [draw.row(chart.lanes, 4)]:
            self.same([is_head(chart, row, own), is_head(chart, row, tuple(own))], [own in tops] * 2)
            self.same([is_foot(chart, row, own), is_foot(chart, row, tuple(own))], [own in bottoms] * 2)
            for lane, number in enumerate(own):
                for changed in (None, 0) if number is None else (None, number + 1, number - 1):
                    other = own[:lane] + [changed] + own[lane + 1:]
                    self.same([is_head(chart, row, other), is_foot(chart, row, other)],
                              [other in tops, other in bottoms])

    def test_by_plain_looking(self):
        for families, draw in drawn_charts(100, 3, 3):
            if any(abs(number) > 3 for family in families for lot in family.lots() for _, number in lot):
                continue
            chart, row = Map(families), draw.row(len(families), 2)
            tops, bottoms = heads(chart, row), feet(chart, row)
            for content in oracle.boxed(chart.lanes, -6, 6) if chart.lanes < 3 else oracle.boxed(3, -3, 4):
                told = chart(content)
                self.assertEqual(oracle.below(told, row), any(oracle.below(content, own) for own in tops))
                self.assertEqual(oracle.above(told, row), any(oracle.above(content, own) for own in bottoms))

    def test_just_two_hundred(self):
        self.same(len(feet(TWO_HUNDRED, FLOOR)), 200)
        self.same(len(heads(-TWO_HUNDRED, FLOOR)), 200)
        for own in feet(TWO_HUNDRED, FLOOR):
            self.assertTrue(is_foot(TWO_HUNDRED, FLOOR, own) and is_head(-TWO_HUNDRED, FLOOR, negative(own)))

    def test_more_than_two_hundred(self):
        self.fails(TooMany, ROWS, feet, MORE, FLOOR)
        self.fails(TooMany, ROWS, heads, -MORE, FLOOR)
        self.same([len(feet(MORE, [0, 0] + [None] * 4)), len(heads(-MORE, [0, 0] + [None] * 4))], [67, 67])
        # The other way round they are few.
        self.same(len(heads(MORE, FLOOR)), len(oracle.ladder(tables(MORE), FLOOR)[-1]))
        # Judged without a limit.
        last = oracle.feet_by_lanes(tables(MORE), FLOOR)[-1]
        self.same([len(last), all(is_foot(MORE, FLOOR, own) for own in last[::20])], [201, True])
        self.same([all(is_head(-MORE, FLOOR, negative(own)) for own in last[::20]), is_foot(MORE, FLOOR, [0] * 6)],
                  [True, False])

    def test_more_only_with_none_on_the_last_lanes(self):
        for chart, row, many in ((TWO_HUNDRED, [0, 0, 0, 0, None, None], 1), (MORE, [0, 0, 0, 0, None, None], None),
                                 (MORE, [0] * 6, None), (TWO_HUNDRED, [0] * 6, 1)):
            self.same(len(oracle.feet_by_lanes(tables(chart), row)[-1]), 1)
            if many is None:
                self.fails(TooMany, ROWS, feet, chart, row)
                self.fails(TooMany, ROWS, heads, -chart, row)
            else:
                self.same([feet(chart, row), heads(-chart, row)], [[[1000] * 6], [[-1000] * 6]])
            self.same([is_foot(chart, row, [1000] * 6), is_head(-chart, row, [-1000] * 6)], [True, True])

    def test_lots_on_the_way_do_not_count(self):
        # Feet of the first lots of a lane alone are more than 200; those of all its lots are few.
        lots = [((lane, 0), (lane + 6, 0)) for lane in range(4)] + antichain(12, 4, 10)
        self.same(len(oracle.feet_by_lanes([lots], [0] + [None] * 11)[-1]), 208)
        chart = Map([Family(lots + [((lane, -5),) for lane in range(12)])] + Map.same(12).families()[1:])
        self.same(feet(chart, [0] + [None] * 11), oracle.feet_by_lanes(tables(chart), [0] + [None] * 11)[-1])
        self.fails(TooMany, ROWS, feet, Map([Family(lots)] + Map.same(12).families()[1:]), [0] + [None] * 11)

    def test_maps_of_many_lots(self):
        # More than can be gone through choice by choice.
        chart = Map([Family([tuple((lane, place * (lane + 1) - 7 * lane) for lane in range(12))])
                     for place in range(12)])
        for row in ([0] * 12, [3] + [None] * 11, [None] * 11 + [5]):
            for own in feet(chart, row)[:30]:
                self.same(is_foot(chart, row, own), True)
            self.same([is_head(chart, row, own) for own in heads(chart, row)], [True])
        around = [((lane, 0), (lane + 1, 0)) for lane in range(11)] + [((0, 0), (11, 0))]
        plain = Map([Family([lot]) for lot in around])
        self.same(len(feet(plain, [0] * 12)), len(oracle.feet_by_lanes(tables(plain), [0] * 12)[-1]))
        wide = Map([Family(antichain(60, lane, lane + 1)) for lane in range(0, 11)] + [Family([((11, 0),)])])
        self.fails(TooMany, ROWS, feet, wide, [0] * 12)
        self.same([is_head(wide, [0] * 12, own) for own in heads(wide, [0] * 12)], [True])

    def test_any_value(self):
        for value in NO_PAPERS:
            wanted = repr(value) in ("[0, 0]", "(0, 0)")
            self.same([is_head(SAME, [0, 0], value), is_foot(SAME, (0, 0), value)], [wanted, wanted])
            none = repr(value) in ("(None, None)", "[None, None]")
            self.same([is_head(SAME, [None, None], value), is_foot(SAME, [None, None], value)], [none, none])
        for value in NOT_ROWS_OF_TWO:
            self.same([is_head(SAME, [None, None], value), is_foot(SAME, [None, None], value)], [False, False])
        for value in ([True, 1], [1, True], (1, 1, 1), [1], {0: 1, 1: 1}, [1, None], [None, 1], [1, 2], [0, 1]):
            self.same([is_head(SAME, [1, 1], value), is_foot(SAME, [1, 1], value)], [False, False])


class Back(Case):
    def test_small_ones(self):
        self.same([heads_back(CHART, [5, 3], many) for many in (0, 1, 2, 40)],
                  [[[5, 3]], [[None, 3]], [[None, 3]], [[None, 3]]])
        self.same([heads_back(CHART, (5, None), many) for many in range(4)],
                  [[[5, None]], [[None, 3], [3, None]], [[None, 3], [1, None]], [[None, 3], [-1, None]]])
        self.same(heads_back(chart=CHART, row=[None, None], many=40), [[None, None]])
        swap = Map([Family([((1, 1),)]), Family([((0, 0),)])])
        self.same([heads_back(swap, [0, 5], many) for many in (1, 2, 39, 40)],
                  [[[5, -1]], [[-1, 4]], [[-14, -20]], [[-20, -15]]])

    def test_drawn_ones(self):
        seen = {True: 0, False: 0}
        for families, draw in drawn_charts(80, 3, 3):
            chart, row = Map(families), draw.row(len(families), 3)
            for many in (0, 1, 2, 3):
                told = heads_back(chart, row, many)
                self.same(told, oracle.heads_back(tables(chart), row, many))
                self.same(told, heads(chart * many, row))
                seen[told == heads_back(chart, row, many + 1)] += 1
        self.assertGreater(min(seen.values()), 20, seen)

    def test_by_plain_looking(self):
        for families, draw in drawn_charts(60, 2, 2):
            chart, row = Map(families), draw.row(len(families), 3)
            contents = [draw.content(chart.lanes, 8) for _ in range(40)]
            behind = contents
            for many in range(5):
                told = heads_back(chart, row, many)
                for content, last in zip(contents, behind):
                    self.assertEqual(oracle.below(last, row), any(oracle.below(content, own) for own in told))
                behind = [chart(last) for last in behind]

    def test_forty_rounds(self):
        self.same(heads_back(Map([Family([((0, 1),)])]), [0], 40), [[-40]])
        for many in (41, 42, 1000, HUGE):
            self.fails(TooMany, ROUNDS, heads_back, CHART, [5, 3], many)
            # Ahead of too many rows.
            self.fails(TooMany, ROUNDS, heads_back, -MORE, FLOOR, many)
        for value in NOT_COUNTS:
            self.fails(InvalidMany, {"value": value}, heads_back, CHART, [5, 3], value)
            self.fails(InvalidMany, {"value": value}, heads_back, -MORE, FLOOR, value)

    def test_many_rows(self):
        self.same([heads_back(-MORE, FLOOR, 0), len(heads_back(-TWO_HUNDRED, FLOOR, 1))], [[FLOOR], 200])
        for many in (1, 2, 40):
            self.fails(TooMany, ROWS, heads_back, -MORE, FLOOR, many)

    def test_many_rows_only_back_through_some_rounds(self):
        # No ceiling has many heads, but all of them together have.
        for seed, last, many in ((87, 6, 172), (191, 10, 185)):
            draw = Draw(seed)
            chart, row = draw.chart(5, 4, 3), draw.content(4, 4)
            told = heads_back(chart, row, last)
            self.same([len(told), max(len(heads(chart, own)) for own in told) < 20], [many, True])
            self.same(told, oracle.heads_back(tables(chart), row, last))
            self.same(oracle.heads_back(tables(chart), row, last + 1), None)
            for more in (1, 2, 40 - last):
                self.fails(TooMany, ROWS, heads_back, chart, row, last + more)

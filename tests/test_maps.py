"""lanelots.maps: maps, the same map, plain maps, and what is made of them lane by lane (point 31)."""

from lanelots.basics import moved, turned
from lanelots.errors import (
    InvalidContent, InvalidFamilies, InvalidFamily, InvalidLane, InvalidLanes, InvalidOrder, InvalidOther, TooMany,
)
from lanelots.families import CoFamily, Family
from lanelots.maps import Map, fed
from tests import lot_oracle as oracle
from tests.helpers import (
    HUGE, NOT_CONTENTS_OF_TWO, NOT_COUNTS, NOT_FAMILIES, NOT_INTEGERS, NOT_LISTS, NOT_MAPS, NOT_ORDERS_OF_TWO, Case,
    Draw,
    drawn_contents,
)

STEP = [Family([((0, 2),), ((1, 2),)]), Family([((1, 0),)])]
ZERO, ONE, ELEVEN = Family([((0, 0),)]), Family([((1, 0),)]), Family([((11, 0),)])
# Their other sides have at most 60 lots only if their own sequence, or that of the turned lots, is gone through.
MORE_TURNED = [
    ((0, 0), (9, 1)), ((0, 1), (7, -1)), ((1, 1), (10, 0)), ((3, 0), (4, 0)), ((4, 1), (7, 1)), ((5, 0), (9, -1)),
    ((6, 0), (8, 1)), ((6, 0), (10, -1)), ((6, 1), (11, -1)),
]
FEWER_TURNED = [
    ((1, 0), (6, 0)), ((1, 1), (10, -1)), ((3, 0), (11, 1)), ((4, -1), (8, 1)), ((4, 0), (7, 0)), ((5, 0), (9, 1)),
    ((7, -1), (10, 0)), ((7, 1), (8, 0)), ((7, 1), (9, 1)),
]


def drawn_charts(times, many=3, lanes=4):
    for seed in range(times):
        draw = Draw(seed)
        wide, most = 1 + draw.below(lanes), draw.pick((0, 1, 3, 20, HUGE))
        yield [draw.family(1 + draw.below(many), wide, most) for _ in range(wide)], draw


class Made(Case):
    def test_example(self):
        step = Map([Family([((0, 2),), ((1, 2),)]), Family([((1, 0),)])])
        self.same([step([5, 1]), (step + step)([5, 1]), step.lanes, step.is_plain, step * 0 == Map.same(2)],
                  [[3, 1], [3, 1], 2, False, True])
        self.same([(step + step)[0].lots(), fed(Family([((0, 0), (1, 5))]), step).lots(), (-step)[0].lots()],
                  [[((0, 4),), ((1, 2),)], [((1, 5),)], [((0, -2), (1, -2))]])

    def test_parts(self):
        chart = Map(STEP)
        self.same([chart.lanes, chart.families(), chart[0], chart[1]], [2, STEP, STEP[0], STEP[1]])
        self.same([Map(tuple(STEP)), Map([ZERO]).lanes, Map([ELEVEN] * 12).lanes], [chart, 1, 12])
        self.same(type(chart.families()), list)

    def test_same(self):
        for lanes in range(1, 13):
            chart = Map.same(lanes)
            self.same(chart.families(), [Family([((lane, 0),)]) for lane in range(lanes)])
            self.same([chart.lanes, chart.is_plain, chart(list(range(lanes)))], [lanes, True, list(range(lanes))])
        self.same(Map.same(lanes=3), Map.same(3))
        for value in NOT_INTEGERS + (0, -1, 13, HUGE, -HUGE):
            self.fails(InvalidLanes, {"value": value}, Map.same, value)

    def test_is_plain(self):
        for families, wanted in (([ZERO], True), ([Family([((0, 0), (1, 0)), ((1, 0), (2, 0))]), ONE, ZERO], True),
                                 ([Family([((0, 1),)])], False), ([ZERO, Family([((0, 0), (1, -1))])], False),
                                 ([ZERO, Family([((0, 0),), ((1, HUGE),)])], False)):
            self.same(Map(families).is_plain, wanted)

    def test_tells(self):
        chart = Map(STEP)
        self.same([chart([0, 0]), chart((9, -4)), chart([-HUGE, HUGE])], [[2, 0], [-2, -4], [2 - HUGE, HUGE]])
        for families, draw in drawn_charts(60):
            for content in drawn_contents(draw, len(families)):
                self.same(Map(families)(content), [oracle.value(family.lots(), content) for family in families])

    def test_equal(self):
        chart = Map(STEP)
        self.same([chart == Map(tuple(STEP)), chart != Map(list(STEP)), chart == chart], [True, False, True])
        for other in (Map(STEP[::-1]), Map(STEP[1:] * 2), Map(STEP + [ZERO]), Map([ZERO]), Map.same(2), STEP,
                      repr(chart), None, 0,
                      True, STEP[0], CoFamily([((0, 0),)])):
            self.same([chart == other, other == chart, chart != other], [False, False, True])

    def test_repr(self):
        self.assertEqual(repr(Map(STEP)), "Map([Family([((0, 2),), ((1, 2),)]), Family([((1, 0),)])])")
        self.assertEqual(repr(Map.same(1)), "Map([Family([((0, 0),)])])")

    def test_not_iterated_over(self):
        with self.assertRaises(TypeError):
            list(Map(STEP))

    def test_never_changes(self):
        for name in ("lanes", "is_plain"):
            with self.assertRaises(AttributeError):
                setattr(Map(STEP), name, 1)


class Limits(Case):
    def test_families(self):
        for value in NOT_LISTS + ([], ()):
            self.fails(InvalidFamilies, {"position": None}, Map, value)
        for value in NOT_FAMILIES + (Family([((2, 0),)]), Family([((0, 0),), ((0, -9), (2, 0))]), ELEVEN):
            self.fails(InvalidFamilies, {"position": 0}, Map, [value, None])
            self.fails(InvalidFamilies, {"position": 1}, Map, (ONE, value))

    def test_last_lane(self):
        for lanes in range(1, 13):
            family = Family([((lanes - 1, 0),)])
            self.same(Map([family] * lanes).lanes, lanes)
            if lanes > 1:
                self.fails(InvalidFamilies, {"position": 0}, Map, [family] * (lanes - 1))
                self.fails(InvalidFamilies, {"position": lanes - 2}, Map, [ZERO] * (lanes - 2) + [family])

    def test_twelve_lanes(self):
        self.same(Map([ZERO] * 12).lanes, 12)
        for many in (13, 14, 500):
            self.fails(TooMany, {"what": "lanes", "limit": 12}, Map, [ELEVEN] * many)
            self.fails(InvalidFamilies, {"position": many}, Map, [ELEVEN] * many + [None])

    def test_items(self):
        for value in NOT_COUNTS + (2, 3, HUGE, slice(0, 1)):
            self.fails(InvalidLane, {"value": value}, lambda: Map(STEP)[value])

    def test_contents(self):
        for value in NOT_CONTENTS_OF_TWO:
            self.fails(InvalidContent, {"value": value}, Map(STEP), value)
        self.fails(InvalidContent, {"value": [1, 2]}, Map([ZERO]), [1, 2])


class Turned(Case):
    def test_lane_by_lane(self):
        self.same((-Map(STEP)).families(), [Family([((0, -2), (1, -2))]), ONE])
        self.same(-Map.same(12), Map.same(12))
        self.same(-Map([Family([((0, 1), (1, 2)), ((0, 3), (2, 0))]), ZERO, ZERO])[0],
                  CoFamily([((0, -1), (1, -2)), ((0, -3), (2, 0))]))

    def test_drawn_ones(self):
        for families, draw in drawn_charts(80):
            chart = Map(families)
            self.same(-chart, Map([~-family for family in families]))
            self.same(--chart, chart)
            for content in drawn_contents(draw, chart.lanes):
                self.same((-chart)(content), turned(chart(turned(content))))

    def test_limit_as_of_the_other_side(self):
        pairs = [((lane, 0), (lane + 6, 0)) for lane in range(6)]
        rest = [((lane, 0),) for lane in range(11)]

        def chart(lots):
            return Map([Family([lot]) for lot in rest] + [Family(lots)])

        self.same(len((-chart(pairs[:5]))[11]), 32)
        for lots in (pairs, pairs + [((6, 0), (7, 0))]):
            self.fails(TooMany, {"what": "lots", "limit": 60}, lambda: -chart(lots))

    def test_the_first_lots_are_those_of_the_cofamily(self):
        # With signs changed the lots come in another sequence, and it is that one which counts.
        for lots, most, turned_most in ((MORE_TURNED, 52, 78), (FEWER_TURNED, 64, 58)):
            family = Family(lots)
            self.assertEqual(most_on_the_way(family.lots(), oracle.other_side), most)
            self.assertEqual(most_on_the_way((-family).lots(), oracle.other_side_of_co), turned_most)
            chart = Map([ZERO] * 11 + [family])
            for told, many in ((lambda: (~family).lots(), most), (lambda: (-chart)[11].lots(), turned_most)):
                if many > 60:
                    self.fails(TooMany, {"what": "lots", "limit": 60}, told)
                else:
                    self.same(len(told()), len(oracle.other_side(family.lots())))


def most_on_the_way(lots, side):
    return max(len(side(lots[:many])) for many in range(1, len(lots) + 1))


class Beside(Case):
    def test_lanes_behind(self):
        self.same(Map(STEP).beside(Map(STEP[::-1] + [Family([((0, 1), (2, 5))])])),
                  Map(STEP + [Family([((3, 0),)]), Family([((2, 2),), ((3, 2),)]), Family([((2, 1), (4, 5))])]))
        self.same(Map.same(5).beside(Map.same(7)), Map.same(12))

    def test_drawn_ones(self):
        for families, draw in drawn_charts(40):
            one, other = Map(families), draw.chart(3, 2, 4)
            for content in drawn_contents(draw, one.lanes + 2):
                self.same(one.beside(other)(content), one(content[:one.lanes]) + other(content[one.lanes:]))

    def test_wrong_ones(self):
        for value in NOT_MAPS:
            self.fails(InvalidOther, {"value": value}, Map(STEP).beside, value)
        self.fails(TooMany, {"what": "lanes", "limit": 12}, Map.same(5).beside, Map.same(8))
        self.fails(TooMany, {"what": "lanes", "limit": 12}, Map.same(12).beside, Map.same(1))


class Renumbered(Case):
    def test_lanes_and_lots(self):
        chart = Map([Family([((0, 1), (1, 2)), ((2, 3),)]), ONE, Family([((0, 9), (2, 8))])])
        self.same(chart.renumbered([2, 0, 1]), Map([ZERO, Family([((1, 8), (2, 9))]),
                                                    Family([((0, 2), (2, 1)), ((1, 3),)])]))
        self.same([chart.renumbered((0, 1, 2)), chart.renumbered([2, 0, 1]).renumbered([1, 2, 0])], [chart, chart])

    def test_drawn_ones(self):
        for families, draw in drawn_charts(80):
            chart, order = Map(families), draw.order(len(families))
            for content in drawn_contents(draw, chart.lanes):
                self.same(chart.renumbered(order)(moved(content, order)), moved(chart(content), order))

    def test_wrong_ones(self):
        for value in NOT_ORDERS_OF_TWO:
            self.fails(InvalidOrder, {"value": value}, Map(STEP).renumbered, value)


class WithFamily(Case):
    def test_each_lane(self):
        chart, family = Map(STEP + [ZERO]), Family([((0, 4), (2, 4)), ((1, 7),)])
        for lane in range(3):
            wanted = chart.families()
            wanted[lane] = family
            self.same(chart.with_family(lane, family).families(), wanted)
        self.same(chart.families(), STEP + [ZERO])

    def test_wrong_ones(self):
        for value in NOT_COUNTS + (2, 3, HUGE):
            self.fails(InvalidLane, {"value": value}, Map(STEP).with_family, value, ZERO)
            self.fails(InvalidLane, {"value": value}, Map(STEP).with_family, value, None)
        for value in NOT_FAMILIES + (Family([((2, 0),)]), Family([((0, 0),), ((0, -9), (2, 0))]), ELEVEN):
            self.fails(InvalidFamily, {"value": value}, Map(STEP).with_family, 1, value)
        self.same(Map(STEP).with_family(1, ONE), Map(STEP))

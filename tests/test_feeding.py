"""lanelots.maps: families and maps that are fed with maps, families on the way, and rounds (point 32)."""

from lanelots.errors import InvalidFamily, InvalidMany, InvalidOther, TooMany
from lanelots.families import Family
from lanelots.maps import Map, fed
from tests import lot_oracle as oracle
from tests.helpers import HUGE, NOT_COUNTS, NOT_FAMILIES, NOT_MAPS, Case, Draw, antichain, drawn_contents
from tests.test_maps import ONE, STEP, ZERO, drawn_charts

SIXTY = {"what": "lots", "limit": 60}
ROUNDS = {"what": "rounds", "limit": 60}
# A lot over which all lots of the maps below come to one.
FAR = Family([tuple((lane, 500) for lane in range(5))])


def wide_map(*families):
    """The map of five lanes with these families first."""
    return Map(list(families) + Map.same(5).families()[len(families):])


class Fed(Case):
    def test_one_lot(self):
        chart = Map(STEP)
        self.same(fed(ZERO, chart), STEP[0])
        self.same(fed(Family([((0, 3),)]), chart), Family([((0, 5),), ((1, 5),)]))
        self.same(fed(Family([((0, 0), (1, 3))]), chart), Family([((0, 2), (1, 3)), ((1, 3),)]))
        self.same(fed(Family([((0, 0),), ((1, -9),)]), chart), Family([((0, 2),), ((1, -9),)]))
        self.same(fed(STEP[0], Map.same(2)), STEP[0])

    def test_by_plain_looking(self):
        for families, draw in drawn_charts(120):
            chart, lanes = Map(families), len(families)
            family = draw.family(3, lanes, draw.pick((0, 2, HUGE)))
            told = fed(family, chart)
            self.same(told.lots(), oracle.on_the_way(family.lots(), [own.lots() for own in families])[-1])
            for content in drawn_contents(draw, lanes):
                self.same(told(content), family(chart(content)))

    def test_told_in_two_ways(self):
        for families, draw in drawn_charts(80, 2, 3):
            chart, lanes = Map(families), len(families)
            one, other = [draw.family(2, lanes, 3) for _ in range(2)]
            self.same(fed(one & other, chart), fed(one, chart) & fed(other, chart))
            self.same(fed(one | other, chart), fed(one, chart) | fed(other, chart))
            self.same(fed(one + 4, chart), fed(one, chart) + 4)
            self.same(~-fed(one, chart), fed(~-one, -chart))
            second = draw.chart(2, lanes, 3)
            self.same(fed(fed(one, second), chart), fed(one, chart + second))

    def test_families_that_do_not_fit(self):
        for value in NOT_FAMILIES + (Family([((2, 0),)]), Family([((0, 0),), ((0, -9), (2, 0))]), Family([((11, 0),)])):
            self.fails(InvalidFamily, {"value": value}, fed, value, Map(STEP))
        self.same(fed(Family([((11, 4),)]), Map.same(12)), Family([((11, 4),)]))


class OnTheWay(Case):
    def test_lanes_of_one_lot(self):
        six, ten, common = antichain(6, 0, 1), antichain(10, 2, 3), [((4, 0),)]
        lot = Family([((0, 0), (1, 0))])
        self.same(len(fed(lot, wide_map(Family(six), Family(ten)))), 60)
        self.fails(TooMany, SIXTY, fed, lot, wide_map(Family(six + common), Family(ten + common)))
        # In the end there is only one lot; but the first two lanes are too many.
        three = Family([((0, 0), (1, 0), (2, 0))])
        self.same(fed(three, wide_map(Family(six), Family(ten), FAR)), FAR)
        self.fails(TooMany, SIXTY, fed, three, wide_map(Family(six + common), Family(ten + common), FAR))
        # Lane by lane: where the lane that makes it one comes first, or between, nothing is too many.
        self.same(fed(three, wide_map(FAR, Family(six + common), Family(ten + common))), FAR)
        self.same(fed(three, wide_map(Family(six + common), FAR, Family(ten + common))), FAR)

    def test_first_lots(self):
        many, lone, low = Family(antichain(60)), Family([((2, 0),)]), Family([((0, -500),), ((1, -500),), ((2, -500),)])
        few = Family(antichain(59))
        three = Family([((0, 0),), ((1, 0),), ((2, 0),)])
        two = Family([((0, 0),), ((1, 0),)])
        self.same(len(fed(two, wide_map(few, lone))), 60)
        self.fails(TooMany, SIXTY, fed, two, wide_map(many, lone))
        self.same(fed(three, wide_map(few, lone, low)), low)
        self.fails(TooMany, SIXTY, fed, three, wide_map(many, lone, low))
        self.same(fed(three, wide_map(low, many, lone)), low)
        self.same(fed(three, wide_map(many, low, lone)), low)

    def test_by_plain_looking(self):
        seen = {"told": 0, "in the end": 0, "on the way alone": 0}
        for seed in range(60):
            draw = Draw(seed)
            chart = Map([draw.family(2 + draw.below(5), 7, 9, least=2) for _ in range(7)])
            family = draw.family(1 + draw.below(6), 7, 9, least=2)
            ways = oracle.on_the_way(family.lots(), [own.lots() for own in chart.families()])
            if max(len(way) for way in ways) > 60:
                seen["in the end" if len(ways[-1]) > 60 else "on the way alone"] += 1
                self.fails(TooMany, SIXTY, fed, family, chart)
                self.fails(TooMany, SIXTY, lambda: chart + Map([family] * 7))
            else:
                seen["told"] += 1
                self.same(fed(family, chart).lots(), ways[-1])
        self.assertGreater(min(seen.values()), 2, seen)


class Behind(Case):
    def test_small_ones(self):
        step = Map(STEP)
        self.same((step + step).families(), [Family([((0, 4),), ((1, 2),)]), ONE])
        swap = Map([ONE, ZERO])
        self.same([step + swap, swap + step], [Map([ONE, STEP[0]]), Map([Family([((0, 2),), ((1, 2),)]), ZERO])])
        self.same([step + Map.same(2), Map.same(2) + step], [step, step])

    def test_by_plain_looking(self):
        for families, draw in drawn_charts(80, 2, 3):
            one = Map(families)
            other, third = draw.chart(2, one.lanes, 4), draw.chart(2, one.lanes, 4)
            for content in drawn_contents(draw, one.lanes):
                self.same((one + other)(content), other(one(content)))
            self.same((one + other).families(), [fed(family, one) for family in other.families()])
            self.same([(one + other) + third, -(one + other)], [one + (other + third), -one + -other])
            order = draw.order(one.lanes)
            self.same((one + other).renumbered(order), one.renumbered(order) + other.renumbered(order))
            self.same(one.beside(other) + other.beside(one), (one + other).beside(other + one))

    def test_wrong_ones(self):
        for value in NOT_MAPS + (Map.same(1), Map.same(3), Map(STEP + [ZERO])):
            self.fails(InvalidOther, {"value": value}, lambda: Map(STEP) + value)

    def test_limit(self):
        six, ten, common = antichain(6, 0, 1), antichain(10, 2, 3), [((4, 0),)]
        other = wide_map(ZERO, ONE, Family([((0, 0), (1, 0))]))
        self.same(len((wide_map(Family(six), Family(ten)) + other)[2]), 60)
        self.fails(TooMany, SIXTY, lambda: wide_map(Family(six + common), Family(ten + common)) + other)
        self.fails(TooMany, SIXTY, lambda: wide_map(Family(six + common), Family(ten + common), FAR) + wide_map(
            ZERO, ONE, Family([((0, 0), (1, 0), (2, 0))])))
        self.fails(InvalidOther, {"value": Map.same(4)}, lambda: wide_map(Family(antichain(60))) + Map.same(4))


class Rounds(Case):
    def test_so_many(self):
        step = Map(STEP)
        self.same([step * 0, step * 1, step * 2, step * 3], [Map.same(2), step, step + step, step + step + step])
        self.same((step * 60).families(), [Family([((0, 120),), ((1, 2),)]), ONE])
        swap = Map([ONE, ZERO])
        self.same([swap * 59, swap * 60], [swap, Map.same(2)])
        self.same(Map.same(12) * 60, Map.same(12))
        self.same((Map([Family([((0, HUGE),)])]) * 60)[0].lots(), [((0, 60 * HUGE),)])

    def test_contents_gone_round(self):
        for families, draw in drawn_charts(30, 2, 3):
            chart = Map(families)
            for content in drawn_contents(draw, chart.lanes)[:3]:
                told = list(content)
                for many in range(6):
                    self.same((chart * many)(content), told)
                    told = chart(told)

    def test_many(self):
        for value in NOT_COUNTS:
            self.fails(InvalidMany, {"value": value}, lambda: Map(STEP) * value)
        for value in (61, 62, 1000, HUGE):
            self.fails(TooMany, ROUNDS, lambda: Map(STEP) * value)
            self.fails(TooMany, ROUNDS, lambda: Map.same(1) * value)

    def test_limit_of_one_of_the_rounds(self):
        # Told of any later number of rounds, too, but not if there are too many of them.
        seen = {True: 0, False: 0}
        for seed in range(30):
            draw = Draw(seed)
            chart = Map([draw.family(1 + draw.below(5), 5 + seed % 3, 6, least=1 + seed % 2)
                         for _ in range(5 + seed % 3)])
            found = self.told_rounds(chart)
            many = len(found)
            self.same([chart * so_many for so_many in range(many)], found)
            seen[many < 6] += 1
            if many < 6:
                for later in (many, many + 1, 60):
                    self.fails(TooMany, SIXTY, lambda: chart * later)
                self.fails(TooMany, ROUNDS, lambda: chart * 61)
        self.assertGreater(min(seen.values()), 5, seen)

    def told_rounds(self, chart):
        """What comes of 0, 1, up to 5 rounds, as far as it has not too many lots."""
        found = [Map.same(chart.lanes)]
        try:
            for _ in range(5):
                found.append(found[-1] + chart)
        except TooMany:
            pass
        return found

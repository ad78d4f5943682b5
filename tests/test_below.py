"""lanelots.cofamilies: co-lots below a family, and those of its other side (point 28); what is above a co-family."""

from lanelots.cofamilies import above, below, is_below, is_needed, needed
from lanelots.errors import InvalidLot, TooMany
from lanelots.families import CoFamily, Family, lies_below
from tests import lot_oracle as oracle
from tests.helpers import HUGE, NO_PAPERS, NOT_LOTS, Case, antichain, drawn_families, spoiled_dicts

MIDDLE = Family([((0, 0), (1, 0)), ((0, 0), (2, 0)), ((1, 0), (2, 0))])
ODD_LANES = (None, True, False, -1, 3, 11, 12, "0", (), ((0, 0),), (0,))
ODD_LOTS = (None, True, (), (0, 0), ((0, True),), ((0, False),), ((11, 1),), 0)
PAIRS = [((lane, 0), (lane + 6, 0)) for lane in range(6)]


def some_co_lots(family, draw):
    """Co-lots of the other side, such with a part otherwise, more or less, and drawn ones."""
    found = []
    for lot in oracle.other_side(family.lots()):
        found.append(lot)
        for place, (lane, number) in enumerate(lot):
            found.extend(lot[:place] + ((lane, changed),) + lot[place + 1:] for changed in (number - 1, number + 1))
            if len(lot) > 1:
                found.append(lot[:place] + lot[place + 1:])
        found.append(lot + ((lot[-1][0] + 1, draw.number(3)),))
    return found + draw.lots(6, 4, 2)


class Below(Case):
    def test_first_lane_that_holds(self):
        family = Family([((0, 0), (1, 5)), ((1, 3), (2, 0))])
        first, second = family.lots()
        self.same(below(((0, 0), (1, 3)), family), {first: 0, second: 1})
        self.same(below(((0, 1), (1, 3)), family), {first: 1, second: 1})
        self.same(below(((1, 3),), family), {first: 1, second: 1})
        self.same(below(((1, -HUGE), (2, 0), (11, 0)), family), {first: 1, second: 1})
        self.same([below(lot, family) for lot in (((1, 4),), ((0, 0),), ((2, 0),), ((0, 1), (2, 0)), ((5, 0),))],
                  [None] * 5)

    def test_any_lane_that_holds(self):
        family = Family([((0, 0), (1, 5)), ((1, 3), (2, 0))])
        first, second = family.lots()
        lot = ((0, 0), (1, 3), (2, 1))
        for lanes, wanted in (({first: 0, second: 1}, True), ({first: 1, second: 1}, True),
                              ({first: 0, second: 2}, False),
                              ({first: 2, second: 1}, False), ({first: False, second: 1}, False),
                              ({first: 0, second: True}, False),
                              ({first: 0}, False), ({first: 0, second: 1, lot: 0}, False),
                              ({first: None, second: 1}, False)):
            self.same(is_below(lot, family, lanes), wanted)
        self.same(is_below(((0, 1), (2, 0)), family, {first: 0, second: 2}), False)

    def test_wrong_lots(self):
        for value in NOT_LOTS:
            self.fails(InvalidLot, {"value": value}, below, value, MIDDLE)
            self.fails(InvalidLot, {"value": value}, needed, value, MIDDLE)
            self.fails(InvalidLot, {"value": value}, is_below, value, MIDDLE, {})
            self.fails(InvalidLot, {"value": value}, is_needed, value, MIDDLE, {})

    def test_any_value(self):
        for value in NO_PAPERS:
            self.same(is_below(((0, 0), (1, 0)), MIDDLE, value), False)
            self.same(is_below(((0, 0),), Family([((0, 0),)]), value), False)
            self.same(is_needed(((0, 0), (1, 0)), MIDDLE, value), False)
            self.same(is_needed(((0, 0),), Family([((0, 0),)]), value), False)

    def test_drawn_ones(self):
        seen = {True: 0, False: 0}
        for one, _, draw in drawn_families(80):
            for lot in some_co_lots(one, draw):
                told = below(lot, one)
                holds = {own: oracle.hold(lot, own) for own in one.lots()}
                self.same(told, {own: holds[own][0] for own in holds} if all(holds.values()) else None)
                # Below, exactly if one of the other side is at least as great at all contents.
                self.same(told is not None, lies_below(CoFamily([lot]), ~one))
                self.same(is_below(lot, one, told), told is not None)
                seen[told is not None] += 1
                if told is None:
                    continue
                for own in one.lots():
                    for lane in range(12):
                        self.same(is_below(lot, one, {**told, own: lane}), lane in holds[own])
                for value in spoiled_dicts(told, ODD_LOTS, (None, True, False, -1, "0", ())):
                    self.same(is_below(lot, one, value), False)
        self.assertGreater(min(seen.values()), 100)


class Needed(Case):
    def test_first_lot_that_needs_each_lane(self):
        self.same(needed(((1, 0), (2, 0)), MIDDLE), {1: ((0, 0), (1, 0)), 2: ((0, 0), (2, 0))})
        self.same(needed(((0, 0), (1, 0), (2, 0)), MIDDLE), None)
        self.same([needed(lot, MIDDLE) for lot in (((0, 0),), ((0, -1), (1, 0)), ((0, 1), (1, 0)))], [None] * 3)
        family = Family([((0, 2), (1, 0)), ((0, 3), (2, 5))])
        self.same(needed(((0, 2),), family), {0: ((0, 2), (1, 0))})
        self.same(needed(((0, 3), (1, 0)), family), {0: ((0, 3), (2, 5)), 1: ((0, 2), (1, 0))})
        self.same(needed(((0, 2), (1, 0)), family), None)

    def test_any_such_lot(self):
        family = Family([((0, 0), (1, 0)), ((0, 0), (2, 0)), ((3, 0),)])
        lot = ((0, 0), (3, 0))
        self.same(needed(lot, family), {0: ((0, 0), (1, 0)), 3: ((3, 0),)})
        for value, wanted in (
            ({0: ((0, 0), (1, 0)), 3: ((3, 0),)}, True), ({0: ((0, 0), (2, 0)), 3: ((3, 0),)}, True),
            ({3: ((3, 0),), 0: ((0, 0), (2, 0))}, True), ({0: ((3, 0),), 3: ((3, 0),)}, False),
            ({0: ((0, 0), (1, 0))}, False),
            ({0: ((0, 0), (1, 0)), 3: ((0, 0), (1, 0))}, False), ({0: ((0, 0),), 3: ((3, 0),)}, False),
            ({False: ((0, 0), (1, 0)), 3: ((3, 0),)}, False), ({0: ((0, False), (1, 0)), 3: ((3, 0),)}, False),
            ({0: [(0, 0), (1, 0)], 3: ((3, 0),)}, False), ({0: ((0, 0), (1, 0)), 3: ((3, 0),), 1: ((3, 0),)}, False),
        ):
            self.same(is_needed(lot, family, value), wanted)

    def test_a_lot_that_is_not_below(self):
        family = Family([((0, 0),), ((1, 0),)])
        self.same(needed(((0, 0),), family), None)
        self.same(is_needed(((0, 0),), family, {0: ((0, 0),)}), False)

    def test_drawn_ones(self):
        seen = {True: 0, False: 0}
        for one, _, draw in drawn_families(80):
            side = oracle.other_side(one.lots())
            for lot in some_co_lots(one, draw):
                told = needed(lot, one)
                self.same(told is not None, lot in side)
                self.same(lot in side, lot in ~one)
                self.same(is_needed(lot, one, told), told is not None)
                seen[told is not None] += 1
                lots = {lane: [own for own in one.lots() if dict(own).get(lane) == number
                               and oracle.hold(lot, own) == [lane]]
                        for lane, number in lot}
                if told is None:
                    continue
                self.same(told, {lane: lots[lane][0] for lane in lots})
                for lane in told:
                    for own in one.lots():
                        self.same(is_needed(lot, one, {**told, lane: own}), own in lots[lane])
                for value in spoiled_dicts(told, ODD_LANES, ODD_LOTS + ([((0, 0),)],)):
                    self.same(is_needed(lot, one, value), False)
        self.assertGreater(min(seen.values()), 100)


class Above(Case):
    def test_corners(self):
        self.same(above(MIDDLE, CoFamily([((0, 0), (1, 0))])), [0, -1, 0])
        self.same(above(Family([((0, 5),)]), CoFamily([((1, 7),), ((2, -9), (4, 0))])), [-5, -8, -8, -8, -8])
        self.same(above(Family([((6, 5),)]), CoFamily([((1, -7),)])), [-1] * 6 + [-5])
        self.same(above(Family([((0, HUGE),)]), CoFamily([((1, HUGE),)])), [-HUGE, -1 - HUGE])
        self.same([above(MIDDLE, ~MIDDLE), above(MIDDLE, ~MIDDLE + 1), above(MIDDLE + 1, ~MIDDLE)],
                  [None, None, [-1, -1, -1]])

    def test_limit(self):
        one = Family(PAIRS)
        for other in (CoFamily([((0, 0),)]), CoFamily([((lane, 0),) for lane in range(12)])):
            with self.assertRaises(TooMany) as caught:
                above(one, other)
            self.same([caught.exception.what, caught.exception.limit], ["lots", 60])
        self.fails(TooMany, {"what": "lots", "limit": 60}, above, Family(antichain(60)), CoFamily([((0, 0),)]))
        self.same(above(Family(PAIRS[:5]), CoFamily([((lane, 0),) for lane in range(12)])), None)

    def test_drawn_ones(self):
        seen = {True: 0, False: 0}
        for one, other, _ in drawn_families(150, 3, 3):
            for co_family in (~other, ~(one | other), ~one, -other, ~one + -1):
                told = above(one, co_family)
                lies = lies_below(~one, co_family)
                self.same(told is None, lies)
                seen[lies] += 1
                if told is None:
                    continue
                self.assertGreater(one(told), co_family(told))
                self.same(len(told), 1 + max(one.hung() + co_family.hung()))
                lot = next(own for own in oracle.other_side(one.lots())
                           if not any(oracle.is_over(over, own) for over in co_family.lots()))
                far = min(-1, -1 - max(number for own in co_family.lots() for _, number in own))
                self.same(told, [-dict(lot)[lane] if lane in dict(lot) else far for lane in range(len(told))])
        self.assertGreater(min(seen.values()), 100)

"""lanelots.lots: lots, their values, what is under and over (points 21 to 23)."""

from lanelots import lots as module
from lanelots.errors import InvalidContent, InvalidLot, InvalidLots, TooMany
from lanelots.lots import co_value, is_lot, is_over, is_under, least_lots, lot_value, over_lots
from tests import lot_oracle as oracle
from tests.helpers import HUGE, LOTS, NOT_LISTS, NOT_LOTS, Case, Draw, antichain, drawn_contents

TWELVE = tuple((lane, lane) for lane in range(12))
TOO_MANY = {"what": "lots", "limit": 200}
# What is no content with the lanes 0 and 2.
NOT_CONTENTS = NOT_LISTS + ([], (), [1], [1, 2], (1, 2), [True, 0, 0], [0, 0, False], [0, None, 0], [0, 0, "1"],
                            [[0], 0, 0],
                            list(range(13)), [0] * 13, (0,) * 14)


def drawn_lots(times):
    """Lists of lots of one to four lanes, with numbers alike, small, and long."""
    for seed in range(times):
        draw = Draw(seed)
        lanes = 1 + draw.below(4)
        yield draw.lots(1 + draw.below(12), lanes, draw.pick((0, 1, 2, 9, HUGE))), lanes, draw


class Kinds(Case):
    def test_example(self):
        self.same([lot_value(((0, 3), (2, -1)), [5, 0, 10]), is_under(((0, 3),), ((0, 3), (2, -1))),
                   is_under(((0, 4),), ((0, 3), (2, -1)))], [9, True, False])
        lots = [((0, 3), (2, -1)), ((0, 3),), ((1, 0),)]
        self.same([least_lots(lots), over_lots(lots)], [[((0, 3),), ((1, 0),)], [((0, 3),), ((1, 0),)]])

    def test_lots(self):
        for lot in LOTS + (TWELVE,):
            self.same(is_lot(lot), True)

    def test_no_lots(self):
        for value in NOT_LOTS:
            self.same(is_lot(value), False)

    def test_one_part_otherwise(self):
        lot = ((0, 1), (3, -2), (11, 0))
        for place in range(3):
            lane, number = lot[place]
            for part in ([lane, number], (lane,), (lane, number, 0), (lane, bool(number)), (bool(lane), number),
                         (lane, None),
                         (12, number), (-1, number), (str(lane), number), None, lane, lot):
                self.same(is_lot(lot[:place] + (part,) + lot[place + 1:]), False)
            self.same(is_lot(lot[:place] + ((lane, 7),) + lot[place + 1:]), True)
            self.same(is_lot(lot[:place] + lot[place + 1:]), True)


class Values(Case):
    def test_greatest_and_least(self):
        lot = ((0, 3), (2, -1))
        for content, wanted in (([5, 0, 10], [9, 8]), ((5, 99, 10), [9, 8]), ([6, 0, 10], [9, 9]), ([8, 0, 1], [11, 0]),
                                ([0, 0, 0], [3, -1]), ([-4, 50, -9, 60], [-1, -10])):
            self.same([lot_value(lot, content), co_value(lot, content)], wanted)

    def test_one_lane_and_twelve(self):
        self.same([lot_value(((0, -2),), [5]), co_value(((0, -2),), (5,))], [3, 3])
        self.same([lot_value(((11, 4),), list(range(12))), co_value(((11, 4),), list(range(12)))], [15, 15])
        self.same([lot_value(TWELVE, [0] * 12), co_value(TWELVE, [0] * 12)], [11, 0])
        down = [11 - lane for lane in range(12)]
        self.same([lot_value(TWELVE, down), co_value(TWELVE, down)], [11, 11])

    def test_long_numbers(self):
        lot = ((0, HUGE), (1, -HUGE))
        self.same([lot_value(lot, [HUGE, HUGE]), co_value(lot, [HUGE, HUGE])], [2 * HUGE, 0])
        self.same([lot_value(lot, [-HUGE, HUGE]), co_value(lot, [-HUGE, HUGE - 1])], [0, -1])

    def test_drawn_ones(self):
        for lots, lanes, draw in drawn_lots(60):
            for content in drawn_contents(draw, lanes) + drawn_contents(draw, 12):
                for lot in lots:
                    self.same(lot_value(lot, content), oracle.greatest(lot, content))
                    self.same(co_value(lot, content), oracle.least(lot, content))

    def test_wrong_lots(self):
        for value in NOT_LOTS:
            for action in (lot_value, co_value):
                self.fails(InvalidLot, {"value": value}, action, value, [0] * 12)
                self.fails(InvalidLot, {"value": value}, action, value, None)

    def test_wrong_contents(self):
        for value in NOT_CONTENTS:
            for action in (lot_value, co_value):
                self.fails(InvalidContent, {"value": value}, action, ((0, 0), (2, 0)), value)
        for action in (lot_value, co_value):
            self.same(action(((0, 0), (2, 0)), [7, 7, 7]), 7)
            self.fails(InvalidContent, {"value": [0] * 11}, action, ((11, 0),), [0] * 11)


class UnderAndOver(Case):
    def test_under(self):
        for one, other, wanted in (
            (((0, 3),), ((0, 3),), True), (((0, 3),), ((0, 4),), True), (((0, 4),), ((0, 3),), False),
            (((0, 3),), ((1, 3),), False), (((1, 3),), ((0, 9), (1, 3), (2, 9)), True),
            (((0, 0), (1, 0)), ((0, 9),), False),
            (((0, 0), (1, 0)), ((0, 0), (1, -1)), False), (((0, 0), (1, 0)), ((0, 5), (1, 0)), True),
            (((0, -HUGE),), TWELVE, True), (TWELVE, TWELVE, True), (TWELVE, TWELVE[1:], False),
            (TWELVE[1:], TWELVE, True),
        ):
            self.same(is_under(one, other), wanted)

    def test_over(self):
        for one, other, wanted in (
            (((0, 3),), ((0, 3),), True), (((0, 3),), ((0, 2),), True), (((0, 2),), ((0, 3),), False),
            (((0, 3),), ((1, 3),), False), (((1, 3),), ((0, 9), (1, 3), (2, 9)), True),
            (((0, 0), (1, 0)), ((0, -9),), False),
            (((0, 0), (1, 0)), ((0, 0), (1, 1)), False), (((0, 0), (1, 0)), ((0, -5), (1, 0)), True),
            (((11, HUGE),), TWELVE, True), (TWELVE, TWELVE, True), (TWELVE, TWELVE[1:], False),
            (TWELVE[1:], TWELVE, True),
        ):
            self.same(is_over(one, other), wanted)

    def test_drawn_ones_by_their_values(self):
        for lots, lanes, draw in drawn_lots(80):
            contents = drawn_contents(draw, lanes)
            for one in lots:
                for other in lots:
                    self.same(is_under(one, other), oracle.is_under(one, other))
                    self.same(is_over(one, other), oracle.is_over(one, other))
                    # Where the other one comes to 0, and its further lanes are far away, the one shows itself.
                    far = 1 + sum(abs(number) for lot in lots for _, number in lot)
                    had = dict(other)
                    at = [[-had.get(lane, side) for lane in range(lanes)] for side in (-far, far)]
                    self.same(is_under(one, other), lot_value(one, at[0]) <= lot_value(other, at[0]))
                    self.same(is_over(one, other), co_value(one, at[1]) >= co_value(other, at[1]))
                    for content in contents:
                        self.assertFalse(is_under(one, other) and lot_value(one, content) > lot_value(other, content))
                        self.assertFalse(is_over(one, other) and co_value(one, content) < co_value(other, content))

    def test_wrong_ones(self):
        for value in NOT_LOTS:
            for action in (is_under, is_over):
                self.fails(InvalidLot, {"value": value}, action, value, ((0, 0),))
                self.fails(InvalidLot, {"value": value}, action, ((0, 0),), value)
                self.fails(InvalidLot, {"value": value}, action, value, None)


class Least(Case):
    def test_under_and_over_one_another(self):
        low, high, wide, apart = ((0, 1),), ((0, 2),), ((0, 1), (1, 0)), ((1, 5),)
        self.same(least_lots([high, low, wide, apart]), [low, apart])
        self.same(over_lots([low, high, wide, apart]), [high, apart])
        self.same([least_lots([wide]), over_lots((wide,))], [[wide], [wide]])
        self.same([least_lots([wide, high]), over_lots([wide, ((0, 0),)])], [[wide, high], [((0, 0),), wide]])

    def test_equal_ones_once_and_sorted(self):
        one, other = ((1, 0),), ((0, 5), (2, 0))
        for action in (least_lots, over_lots):
            for lots in ([one, other, one], (other, one), [one, one, one, other, other]):
                self.same(action(lots), [other, one])

    def test_a_lot_under_others_that_are_under_others(self):
        chain = [tuple((lane, 0) for lane in range(many)) for many in range(1, 13)]
        for lots in (chain, chain[::-1], chain[5:] + chain[:5]):
            self.same([least_lots(lots), over_lots(lots)], [chain[:1], chain[:1]])
        steps = [((3, number),) for number in range(200)]
        for lots in (steps, steps[::-1]):
            self.same([least_lots(lots), over_lots(lots)], [steps[:1], steps[-1:]])

    def test_drawn_ones(self):
        for lots, lanes, draw in drawn_lots(150):
            self.same(least_lots(lots), oracle.family(lots))
            self.same(over_lots(lots), oracle.co_family(lots))
            self.same(least_lots(tuple(lots[::-1]) + tuple(lots[:2])), oracle.family(lots))
            for content in drawn_contents(draw, lanes):
                self.same(oracle.value(least_lots(lots), content), oracle.value(lots, content))
                self.same(oracle.co_value(over_lots(lots), content), oracle.co_value(lots, content))

    def test_no_other_limit(self):
        for action in (least_lots, over_lots):
            for many in (60, 61, 200):
                self.same(action(antichain(many)[::-1]), antichain(many))
                self.same(action(antichain(many, 10, 11)), antichain(many, 10, 11))

    def test_limit(self):
        for action in (least_lots, over_lots):
            self.fails(TooMany, TOO_MANY, action, antichain(201))
            self.fails(TooMany, TOO_MANY, action, [((0, 0),)] * 201)
            self.same(action([((0, 0),)] * 200), [((0, 0),)])
            self.fails(InvalidLots, {"position": 500}, action, [((0, 0),)] * 500 + [((0, True),)] * 3)

    def test_wrong_ones(self):
        for action in (least_lots, over_lots):
            for value in NOT_LISTS + ([], ()):
                self.fails(InvalidLots, {"position": None}, action, value)
            for value in NOT_LOTS:
                self.fails(InvalidLots, {"position": 0}, action, [value])
                self.fails(InvalidLots, {"position": 2}, action, (((0, 0),), ((1, 0),), value, None))
            self.fails(InvalidLots, {"position": 0}, action, ((0, 3), (2, -1)))

    def test_told_lots_are_plain_tuples(self):
        class Odd(tuple):
            pass

        lots = [Odd([Odd((0, 1)), Odd((1, 1))]), Odd([Odd((2, 1))])]
        for action in (least_lots, over_lots):
            told = action(lots)
            self.same(told, [((0, 1), (1, 1)), ((2, 1),)])
            self.assertEqual({type(part) for lot in told for part in lot} | {type(lot) for lot in told}, {tuple})

    def test_defined_here(self):
        for action in (is_lot, lot_value, co_value, is_under, is_over, least_lots, over_lots):
            self.assertEqual(action.__module__, module.__name__)

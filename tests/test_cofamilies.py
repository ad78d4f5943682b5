"""lanelots.cofamilies: what is under, corners, the lanes on which a family hangs, saddles (points 22, 25 to 27)."""

from lanelots.cofamilies import (
    above, below, is_lane_pair, is_parting, is_saddle, is_tree, is_unders, lane_pair, needed, parting, saddle, unders,
)
from lanelots.errors import InvalidContent, InvalidLane
from lanelots.families import CoFamily, Family, lies_below
from tests import lot_oracle as oracle
from tests.helpers import (
    HUGE, NO_PAPERS, NOT_COUNTS, NOT_LISTS, NOT_LOTS, Case, drawn_contents, drawn_families, spoiled_dicts,
)

MIDDLE = Family([((0, 0), (1, 0)), ((0, 0), (2, 0)), ((1, 0), (2, 0))])
NOT_LANES = NOT_COUNTS + (12, 13, HUGE)
ODD_KEYS = (None, True, False, -1, "a", (), ((0, True),), ((0, False),), ((False, 0),), ((11, 1),), (0, 0), ((0, 0), 0))


class Unders(Case):
    def test_example(self):
        self.same([parting(MIDDLE, Family([((0, 0),), ((1, 0), (2, 0))])), unders(Family([((0, 0),)]), MIDDLE),
                   lane_pair(MIDDLE, 2)], [[0, 1, 1], None, ([0, 1, 0], [0, 1, 1])])
        self.same([saddle(Family([((0, 1),), ((1, 0), (2, 0))]), [4, 2, 6]), below(((0, 0), (1, 0)), MIDDLE),
                   needed(((0, 0), (1, 0)), MIDDLE)],
                  [(5, ((0, 1),), {((0, 1),): 0, ((1, 0), (2, 0)): 2}),
                   {((0, 0), (1, 0)): 0, ((0, 0), (2, 0)): 0, ((1, 0), (2, 0)): 1},
                   {0: ((0, 0), (2, 0)), 1: ((1, 0), (2, 0))}])
        one, end = Family([((0, 0),)]), ("end", ((0, 1),))
        self.same([is_tree(one, CoFamily([((0, 1),)]), ("ask", ((0, 0),), {0: end})),
                   above(MIDDLE, CoFamily([((0, 0), (1, 0))]))], [True, [0, -1, 0]])

    def test_the_first_lot_under_each(self):
        one = Family([((0, 5),), ((1, 0),), ((2, 0),)])
        other = Family([((0, 6), (1, 0)), ((1, 1), (2, 2)), ((0, 5), (2, 3), (4, 0))])
        self.same(unders(one, other), {((0, 5), (2, 3), (4, 0)): ((0, 5),), ((0, 6), (1, 0)): ((0, 5),),
                                       ((1, 1), (2, 2)): ((1, 0),)})
        self.same(unders(MIDDLE, MIDDLE), {lot: lot for lot in MIDDLE.lots()})
        self.same([unders(other, one), unders(one, one + -1)], [None, None])

    def test_any_lot_under_each_is_let(self):
        one, wide = Family([((0, 0),), ((1, 0),)]), ((0, 2), (1, 3))
        other = Family([wide])
        self.same(unders(one, other), {wide: ((0, 0),)})
        self.same([is_unders(one, other, {wide: ((0, 0),)}), is_unders(one, other, {wide: ((1, 0),)})], [True, True])
        for value in (wide, ((0, 1),), ((0, 2),), ((2, 0),), ((0, False),), ((False, 0),), [((0, 0),)], ([0, 0],),
                      (0, 0), None):
            self.same(is_unders(one, other, {wide: value}), False)
        self.same(is_unders(one, other, {((0, 2), (True, 3)): ((0, 0),)}), False)
        # A lot of the one, but not under this lot.
        apart = Family([((0, 1),), ((1, 0),)])
        self.same([is_unders(one, apart, {((0, 1),): ((0, 0),), ((1, 0),): under}) for under in one.lots()],
                  [False, True])
        self.same(is_unders(one, Family([((0, -1), (1, 0))]), {((0, -1), (1, 0)): ((0, 0),)}), False)

    def test_any_value(self):
        one = Family([((0, 0),)])
        for value in NO_PAPERS:
            self.same(is_unders(one, one, value), False)
            self.same(is_unders(MIDDLE, MIDDLE, value), False)


class Parting(Case):
    def test_corners(self):
        one, other = Family([((0, -4),), ((1, 3), (2, 0))]), Family([((1, 2), (2, -5))])
        self.same([parting(one, other), one([5, -2, 5]), other([5, -2, 5])], [[5, -2, 5], 1, 0])
        self.same(parting(other, one), [4, 6, 6])
        self.same(parting(Family([((0, 9),)]), Family([((1, 9), (3, 8))])), [1, -9, 1, -8])
        self.same(parting(Family([((5, 0),)]), Family([((0, 0),)])), [0, 1, 1, 1, 1, 1])
        self.same(parting(Family([((0, -HUGE),)]), Family([((1, -HUGE),)])), [HUGE + 1, HUGE])
        self.same([parting(one, one), parting(one, one + 1), parting(one, Family([((0, -4), (11, 0))]))], [None] * 3)
        self.same(parting(one + 1, one), [4, 4, 4])

    def test_least_number_of_the_one_alone_counts(self):
        one, far = Family([((1, 0),)]), Family([((0, -50),)])
        self.same([parting(one, far), parting(far, one)], [[50, 1], [51, 0]])

    def test_any_content_at_which_it_is_above(self):
        one, other = Family([((1, 0),)]), Family([((0, 0),), ((2, 0),)])
        for content, wanted in (([0, 1, 0], True), ((0, 1, 0), True), ([9, 1, 0], True), ([0, 1, 9, 44], True),
                                ([0, 0, 0], False),
                                ([1, 1, 1], False), ([2, 1, 2], False), ([0, 1], False), ([0, 1, False], False),
                                ([0, True, 0], False), ([0, 1, None], False), ([0] + [1] + [0] * 10, True),
                                ([0] + [1] + [0] * 11, False), ({0: 0, 1: 1, 2: 0}, False), ("010", False)):
            self.same(is_parting(one, other, content), wanted)

    def test_any_value(self):
        for value in NO_PAPERS:
            self.same(is_parting(MIDDLE, Family([((0, 0),), ((1, 0),)]), value), False)

    def test_just_one_of_both_papers(self):
        seen = {"unders": 0, "parting": 0}
        for one, other, draw in drawn_families(150, 3, 3):
            for first, second in ((one, other), (one & other, other), (one, one | other), (other, one + 1)):
                yes, no = unders(first, second), parting(first, second)
                seen["unders" if no is None else "parting"] += 1
                self.same([yes is None, no is None], [not lies_below(first, second), lies_below(first, second)])
                self.same([is_unders(first, second, yes), is_parting(first, second, no)],
                          [yes is not None, no is not None])
                if yes is not None:
                    self.same(yes, {lot: next(under for under in first.lots() if oracle.is_under(under, lot))
                                    for lot in second.lots()})
                    for value in spoiled_dicts(yes, ODD_KEYS, (None, True, (), 0, [((0, 0),)])):
                        self.same(is_unders(first, second, value), False)
                if no is not None:
                    self.same(no, self.wanted_corner(first, second))
                    self.same([first(no) > 0, second(no) <= 0], [True, True])
                    self.same(is_parting(first, second, [number + 1 for number in no]), True)
                for content in drawn_contents(draw, 4):
                    self.same(is_parting(first, second, content), first(content) > second(content))
        self.assertGreater(min(seen.values()), 100)

    def wanted_corner(self, one, other):
        lot = next(lot for lot in other.lots() if not any(oracle.is_under(under, lot) for under in one.lots()))
        had = dict(lot)
        far = max(1, 1 - min(number for own in one.lots() for _, number in own))
        return [-had[lane] if lane in had else far for lane in range(1 + max(one.hung() + other.hung()))]


class LanePairs(Case):
    def test_corner_of_the_first_lot_with_the_lane(self):
        family = Family([((0, 2), (1, 0)), ((1, -3), (3, 1))])
        self.same(lane_pair(family, 0), ([-2, 0, 4, 4], [-1, 0, 4, 4]))
        self.same(lane_pair(family, 1), ([-2, 0, 4, 4], [-2, 1, 4, 4]))
        self.same(lane_pair(family, 3), ([4, 3, 4, -1], [4, 3, 4, 0]))
        self.same([lane_pair(family, lane) for lane in (2, 4, 11)], [None] * 3)
        self.same(lane_pair(Family([((11, 0),)]), 11), ([1] * 11 + [0], [1] * 12))

    def test_lanes(self):
        for lane in NOT_LANES:
            self.fails(InvalidLane, {"value": lane}, lane_pair, MIDDLE, lane)
            self.fails(InvalidLane, {"value": lane}, is_lane_pair, MIDDLE, lane, lane_pair(MIDDLE, 0))
            self.fails(InvalidLane, {"value": lane}, is_lane_pair, MIDDLE, lane, None)

    def test_any_two_contents(self):
        family = Family([((0, 0),), ((2, 1),)])
        good = ([0, 0, 0], [1, 0, 0])
        self.same(is_lane_pair(family, 0, good), True)
        for value in (good[::-1], ((0, 0, 0), (1, 0, 0)), ([0, 0, 0], (1, 0, 0)), ([0, 5, 9, 9], [-7, 5, 9, 9]),
                      ([0] * 12, [-1] + [0] * 11)):
            self.same(is_lane_pair(family, 0, value), True)
            self.same(is_lane_pair(family, 2, value), False)
        for value in (list(good), good + good[:1], good[:1], (good,), ([0, 0], [1, 0]), ([0, 0, 0], [1, 0, 0, 0]),
                      ([0, 0, 0, 0], [1, 0, 0]), ([0, 0, 0], [0, 0, 0]), ([0, 0, 0], [1, 1, 0]), ([5, 0, 0], [9, 0, 0]),
                      ([0, 0, 0], [True, 0, 0]), ([False, 0, 0], [1, 0, 0]), ([0, 0, 0], None), (None, [1, 0, 0]),
                      ([0, 0, None], [1, 0, None]), ([0] * 13, [1] + [0] * 12), ([0, 0, 0], [0, 0, 1]),
                      {0: good[0], 1: good[1]}):
            self.same(is_lane_pair(family, 0, value), False)
        self.same(is_lane_pair(family, 1, ([5, 0, 5], [5, 1, 5])), False)
        self.same(is_lane_pair(family, 11, ([5] * 12, [5] * 11 + [6])), False)

    def test_any_value(self):
        for value in NO_PAPERS:
            for lane in (0, 1, 11):
                self.same(is_lane_pair(MIDDLE, lane, value), False)

    def test_drawn_ones(self):
        for one, other, _ in drawn_families(100):
            for family in (one, other, one & other):
                for lane in range(12):
                    told = lane_pair(family, lane)
                    self.same(told is not None, lane in family.hung())
                    self.same(is_lane_pair(family, lane, told), told is not None)
                    if told is None:
                        continue
                    self.same([family(content) for content in told], [0, 1])
                    self.same([len(content) for content in told], [family.hung()[-1] + 1] * 2)
                    lot = next(lot for lot in family.lots() if lane in dict(lot))
                    self.same([told[0][own] for own, _ in lot], [-number for _, number in lot])
                    far = max(1, 1 - min(number for own in family.lots() for _, number in own))
                    self.same({told[0][own] for own in range(len(told[0])) if own not in dict(lot)} <= {far}, True)


class Saddles(Case):
    def test_first_lot_and_first_lanes(self):
        family = Family([((0, 0), (1, 0)), ((0, 0), (2, 0)), ((3, 9),)])
        self.same(saddle(family, [4, 4, 4, 4]),
                  (4, ((0, 0), (1, 0)), {((0, 0), (1, 0)): 0, ((0, 0), (2, 0)): 0, ((3, 9),): 3}))
        self.same(saddle(family, (1, 5, 3, 0)),
                  (3, ((0, 0), (2, 0)), {((0, 0), (1, 0)): 1, ((0, 0), (2, 0)): 2, ((3, 9),): 3}))
        self.same(saddle(family, [1, 2, 3, -9, 77]),
                  (0, ((3, 9),), {((0, 0), (1, 0)): 0, ((0, 0), (2, 0)): 0, ((3, 9),): 3}))

    def test_contents(self):
        for value in NOT_LISTS + ([], [1], [1, 2], (1, 2), [0, 0, True], [0, 0, None], [0] * 13):
            self.fails(InvalidContent, {"value": value}, saddle, MIDDLE, value)
            self.fails(InvalidContent, {"value": value}, is_saddle, MIDDLE, value, None)
            self.fails(InvalidContent, {"value": value}, is_saddle, MIDDLE, value, saddle(MIDDLE, [0, 0, 0]))

    def test_one_part_otherwise(self):
        content = [4, 4, 1]
        number, lot, lanes = saddle(MIDDLE, content)
        self.same((number, lot), (4, MIDDLE.lots()[0]))
        self.same(is_saddle(MIDDLE, content, (number, lot, lanes)), True)
        self.same(is_saddle(MIDDLE, tuple(content) + (0,), (number, MIDDLE.lots()[1], lanes)), True)
        self.same(is_saddle(MIDDLE, content, (number, MIDDLE.lots()[2], {**lanes, MIDDLE.lots()[0]: 1})), True)
        for value in ([number, lot, lanes], (number, lot), (number, lot, lanes, 0), (lot, number, lanes),
                      (3, lot, lanes),
                      (5, lot, lanes), (None, lot, lanes), ("4", lot, lanes), (number, ((0, 0),), lanes),
                      (number, None, lanes),
                      (number, list(lot), lanes), (number, ((0, False), (1, 0)), lanes), (number, lot, None),
                      (number, lot, {})):
            self.same(is_saddle(MIDDLE, content, value), False)
        for value in spoiled_dicts(lanes, ODD_KEYS, (None, True, False, -1, 3, "0", (), [0])):
            self.same(is_saddle(MIDDLE, content, (number, lot, value)), False)
        self.same(is_saddle(MIDDLE, content, (number, lot, {**lanes, MIDDLE.lots()[1]: 2})), False)

    def test_true_is_no_number_and_no_lane(self):
        family = Family([((0, 0), (1, 1))])
        self.same(is_saddle(family, [0, 0], (1, ((0, 0), (1, 1)), {((0, 0), (1, 1)): 1})), True)
        for value in ((True, ((0, 0), (1, 1)), {((0, 0), (1, 1)): 1}), (1, ((0, 0), (1, True)), {((0, 0), (1, 1)): 1}),
                      (1, ((0, 0), (1, 1)), {((0, 0), (1, True)): 1}), (1, ((0, 0), (1, 1)), {((0, 0), (1, 1)): True}),
                      (1, ((0, 0), (1, 1)), {((0, 0), (1, 1)): 0})):
            self.same(is_saddle(family, [0, 0], value), False)

    def test_any_value(self):
        for value in NO_PAPERS:
            self.same(is_saddle(MIDDLE, [0, 0, 0], value), False)
            self.same(is_saddle(Family([((0, 0),)]), [0], value), False)

    def test_drawn_ones(self):
        for one, other, draw in drawn_families(80):
            for content in drawn_contents(draw, 4):
                told = saddle(one, content)
                number, lot, lanes = told
                self.same(is_saddle(one, content, told), True)
                self.same(number, oracle.value(one.lots(), content))
                self.same(lot, next(own for own in one.lots() if oracle.greatest(own, content) == number))
                self.same(lanes, {own: next(lane for lane, more in own if content[lane] + more >= number)
                                  for own in one.lots()})
                for wrong in (number - 1, number + 1):
                    self.same([is_saddle(one, content, (wrong, any_lot, lanes)) for any_lot in one.lots()],
                              [False] * len(one))
                for own in one.lots():
                    self.same(is_saddle(one, content, (number, own, lanes)), oracle.greatest(own, content) == number)
                    for lane in range(12):
                        holds = lane in dict(own) and content[lane] + dict(own)[lane] >= number
                        self.same(is_saddle(one, content, (number, lot, {**lanes, own: lane})), holds)


class Kinds(Case):
    def test_no_lots_are_let_into_papers(self):
        one = Family([((0, 0),)])
        for value in NOT_LOTS:
            self.same(is_unders(one, one, {((0, 0),): value}), False)
            self.same(is_saddle(one, [0], (0, value, {((0, 0),): 0})), False)

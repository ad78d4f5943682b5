"""lanelots.families: choices and the other side, and how many lots it may have (point 24)."""

import itertools

from lanelots.errors import TooMany
from lanelots.families import CoFamily, Family
from tests import lot_oracle as oracle
from tests.helpers import Case, antichain, drawn_families

SIXTY = {"what": "lots", "limit": 60}
PAIRS = [((lane, 0), (lane + 6, 0)) for lane in range(6)]
# With it, those of the 64 choices that take neither lane 6 nor lane 7 are in others: only 48 are left.
LAST = ((6, 0), (7, 0))


def turned(lots):
    return [tuple((lane, -number) for lane, number in lot) for lot in lots]


class OtherSide(Case):
    def test_small_ones(self):
        for lots, wanted in (
            ([((0, 5),)], [((0, 5),)]),
            ([((0, 5), (1, 2))], [((0, 5),), ((1, 2),)]),
            ([((0, 5),), ((1, 2),)], [((0, 5), (1, 2))]),
            ([((0, 1), (1, 0)), ((0, 3), (2, 5))], [((0, 1),), ((0, 3), (1, 0)), ((1, 0), (2, 5))]),
            ([((0, 0), (1, 1)), ((0, 1), (1, 0))], [((0, 0),), ((0, 1), (1, 1)), ((1, 0),)]),
        ):
            self.same(~Family(lots), CoFamily(wanted))
            self.same(~CoFamily(wanted), Family(lots))
            self.same(~CoFamily(turned(lots)), Family(turned(wanted)))

    def test_one_lane_and_twelve(self):
        wide = tuple((lane, lane - 5) for lane in range(12))
        lone = [(part,) for part in wide]
        self.same([~Family([wide]), ~Family(lone)], [CoFamily(lone), CoFamily([wide])])
        self.same([~CoFamily([wide]), ~CoFamily(lone)], [Family(lone), Family([wide])])
        self.same([~Family(lone[:1]), ~CoFamily(lone[11:])], [CoFamily(lone[:1]), Family(lone[11:])])

    def test_all_choices(self):
        for one, other, _ in drawn_families(150, 4, 4):
            for made in (one, other):
                self.same((~made).lots(), oracle.other_side(made.lots()))
        for one, other, _ in drawn_families(150, 4, 4, CoFamily):
            for made in (one, other):
                self.same((~made).lots(), oracle.other_side_of_co(made.lots()))


class Limits(Case):
    def test_five_pairs(self):
        wanted = [tuple(sorted((lane, 0) for lane in choice))
                  for choice in itertools.product(*[(k, k + 6) for k in range(5)])]
        self.same((~Family(PAIRS[:5])).lots(), sorted(wanted))
        self.same((~CoFamily(PAIRS[:5])).lots(), sorted(wanted))
        self.same(~~Family(PAIRS[:5]), Family(PAIRS[:5]))
        self.same(len(~Family(PAIRS[:5])), 32)

    def test_five_pairs_as_the_first_ones_of_others(self):
        for kind in (Family, CoFamily):
            made = kind(PAIRS[:5] + [((6, 0), (7, 0))])
            self.assertEqual(made.lots()[:5], PAIRS[:5])
            self.same(len(~made), 24)
            self.same(len(~kind(PAIRS[:5] + [((5, 0),)])), 32)
            self.same(len(~kind(PAIRS[:5] + [((5, 7),), ((11, 7),)])), 32)

    def test_six_pairs(self):
        for kind in (Family, CoFamily):
            self.fails(TooMany, SIXTY, lambda: ~kind(PAIRS))
            self.fails(TooMany, SIXTY, lambda: ~kind(PAIRS + [((11, 3 if kind is Family else -3),)]))

    def test_six_pairs_as_the_first_ones_of_others(self):
        for kind, side in ((Family, oracle.other_side), (CoFamily, oracle.other_side_of_co)):
            made = kind(PAIRS + [LAST])
            self.assertEqual(made.lots(), PAIRS + [LAST])
            self.assertEqual(len(side(made.lots())), 48)
            self.fails(TooMany, SIXTY, lambda: ~made)

    def test_the_first_ones_are_the_sorted_ones(self):
        # The lot that keeps the choices few now comes ahead of the last pair, or of all.
        for kind, side in ((Family, oracle.other_side), (CoFamily, oracle.other_side_of_co)):
            for few in (((0, -1), (1, 0)), ((4, 1), (5, 0), (6, 1), (7, 0))):
                made = kind([few] + PAIRS)
                ways = [len(side(made.lots()[:many])) for many in range(1, len(made) + 1)]
                if max(ways) > 60:
                    self.fails(TooMany, SIXTY, lambda: ~made)
                else:
                    self.same((~made).lots(), side(made.lots()))

    def test_drawn_ones_with_many_lots(self):
        seen = {"told": 0, "many": 0, "many on the way alone": 0}
        for kind, side in ((Family, oracle.other_side), (CoFamily, oracle.other_side_of_co)):
            for made in orders_of_pairs(kind):
                ways = [len(side(made.lots()[:many])) for many in range(1, len(made) + 1)]
                if max(ways) <= 60:
                    seen["told"] += 1
                    self.same((~made).lots(), side(made.lots()))
                else:
                    seen["many" if ways[-1] > 60 else "many on the way alone"] += 1
                    self.fails(TooMany, SIXTY, lambda: ~made)
        self.assertGreater(min(seen.values()), 5, seen)

    def test_sixty_and_one_more(self):
        wide = [tuple((lane, 0) for lane in lanes) for lanes in ((0, 1, 2), (3, 4, 5, 6), (7, 8, 9, 10, 11))]
        for kind in (Family, CoFamily):
            self.same(len(~kind(wide)), 60)
            self.same(len(~kind(antichain(59))), 60)
            self.fails(TooMany, SIXTY, lambda: ~kind(antichain(60)))
        self.same(~~Family(antichain(59)), Family(antichain(59)))
        # Turned about, the first lots come last.
        made = Family([((0, 0), (1, 0))] + PAIRS[2:] + [((0, 1), (6, 0)), ((1, 1), (7, 0))])
        self.same([ahead(made, oracle.other_side), ahead(-made, oracle.other_side_of_co)],
                  [told_or_none(made), told_or_none(-made)])


def ahead(made, side):
    """The other side by plain looking; None if it has too many lots on the way."""
    ways = [side(made.lots()[:many]) for many in range(1, len(made) + 1)]
    return None if max([len(way) for way in ways]) > 60 else ways[-1]


def told_or_none(made):
    try:
        return (~made).lots()
    except TooMany:
        return None


def orders_of_pairs(kind):
    """Six pairs and one more lot, the lanes of which stand in many sequences."""
    for turn in range(1, 12):
        for step in (1, 5):
            order = [(lane * step + turn) % 12 for lane in range(12)]
            for own in (PAIRS, PAIRS + [LAST], PAIRS[:5] + [((5, 0), (6, 0)), ((7, 0), (8, 0))]):
                yield kind([tuple(sorted((order[lane], number) for lane, number in lot)) for lot in own])

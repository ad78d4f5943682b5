"""Drawn families and co-families: values by plain looking, at most in two ways, formulas told in two ways."""

from lanelots.basics import turned
from lanelots.families import CoFamily, Family, lies_below
from tests import lot_oracle as oracle
from tests.helpers import Case, drawn_contents, drawn_families


def telling_contents(one, other, draw):
    """Drawn contents, and those at which a lot of either one comes to 0 while further lanes are far away."""
    lanes = 1 + max(one.hung() + other.hung())
    found = drawn_contents(draw, lanes)
    far = 1 + sum(abs(number) for part in (one, other) for lot in part.lots() for _, number in lot)
    for lot in one.lots() + other.lots():
        had = dict(lot)
        found.extend([-had.get(lane, side) for lane in range(lanes)] for side in (far, -far))
    return found


class Values(Case):
    def test_by_plain_looking(self):
        for kind, looked in ((Family, oracle.value), (CoFamily, oracle.co_value)):
            for one, other, draw in drawn_families(80, kind=kind):
                for content in telling_contents(one, other, draw):
                    values = [looked(made.lots(), content) for made in (one, other)]
                    self.same([one(content), other(content)], values)
                    self.same([(one & other)(content), (one | other)(content)], [min(values), max(values)])
                    self.same((one + 7)(content), values[0] + 7)
                    self.same([(~one)(content), (-one)(turned(content))], [values[0], -values[0]])

    def test_kinds_of_what_is_told(self):
        for kind, other_kind in ((Family, CoFamily), (CoFamily, Family)):
            for one, other, _ in drawn_families(5, kind=kind):
                self.assertEqual([type(told) for told in (one & other, one | other, one + 1)], [kind] * 3)
                self.assertEqual([type(told) for told in (~one, -one)], [other_kind] * 2)

    def test_lots_by_plain_looking(self):
        for one, other, _ in drawn_families(80):
            joins = [oracle.joined([first, second], max) for first in one.lots() for second in other.lots()]
            self.same([(one & other).lots(), (one | other).lots()],
                      [oracle.family(one.lots() + other.lots()), oracle.family(joins)])
        for one, other, _ in drawn_families(80, kind=CoFamily):
            joins = [oracle.joined([first, second], min) for first in one.lots() for second in other.lots()]
            self.same([(one & other).lots(), (one | other).lots()],
                      [oracle.co_family(joins), oracle.co_family(one.lots() + other.lots())])

    def test_hung(self):
        for one, _, draw in drawn_families(60):
            lanes = 1 + max(one.hung())
            for lane in range(lanes):
                found = False
                for content in telling_contents(one, one, draw):
                    further = content[:lane] + [content[lane] + 1] + content[lane + 1:]
                    found = found or one(content) != one(further)
                self.same(found, lane in one.hung())


class AtMost(Case):
    def test_by_lots_and_by_contents(self):
        seen = set()
        for kind in (Family, CoFamily):
            for one, other, draw in drawn_families(200, 3, 3, kind):
                for first, second in ((one, other), (one & other, other), (other, one | other), (one, one)):
                    told = lies_below(first, second)
                    values = [(first(content), second(content)) for content in telling_contents(first, second, draw)]
                    self.same(told, all(lesser <= greater for lesser, greater in values))
                    self.same(told, first & second == first)
                    self.same(told, first | second == second)
                    self.same(told, lies_below(-second, -first))
                    self.same(told, lies_below(~first, ~second))
                    seen.add((kind, told))
        self.assertEqual(len(seen), 4)

    def test_the_same_values_are_the_same_family(self):
        for kind in (Family, CoFamily):
            for one, other, draw in drawn_families(150, 2, 2, kind):
                alike = all(one(content) == other(content) for content in telling_contents(one, other, draw))
                self.same(alike, one == other)


class ToldInTwoWays(Case):
    def test_formulas(self):
        for kind in (Family, CoFamily):
            for one, other, draw in drawn_families(100, 3, 3, kind):
                third = draw.family(2, 3, 4, kind)
                self.same(one & other, other & one)
                self.same(one | other, other | one)
                self.same((one & other) & third, one & (other & third))
                self.same((one | other) | third, one | (other | third))
                self.same((one & other) | third, (one | third) & (other | third))
                self.same((one | other) & third, (one & third) | (other & third))
                self.same([one & (one | other), one | (one & other)], [one, one])
                self.same((one | other) + 5, (one + 5) | (other + 5))
                self.same((one & other) + -5, (one + -5) & (other + -5))

    def test_the_other_side_and_turned_about(self):
        for kind in (Family, CoFamily):
            for one, other, _ in drawn_families(100, 3, 3, kind):
                self.same([~~one, --one, -~one], [one, one, ~-one])
                self.same([~(one & other), ~(one | other)], [~one & ~other, ~one | ~other])
                self.same([-(one & other), -(one | other)], [-one | -other, -one & -other])
                self.same([~(one + 3), -(one + 3)], [~one + 3, -one + -3])

    def test_one_lane_alone(self):
        for kind in (Family, CoFamily):
            one = kind([((3, 2),)])
            self.same([(~one).lots(), (-one).lots()], [[((3, 2),)], [((3, -2),)]])
            self.same([one & kind([((3, 1),)]), one | kind([((3, 1),)])], [kind([((3, 1),)]), one])

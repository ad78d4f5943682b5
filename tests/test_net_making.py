"""lanelots.nets: what is made out of nets (point 15), and its limits."""

from lanelots.errors import (
    InvalidGate, InvalidGates, InvalidLanes, InvalidMany, InvalidOrder, InvalidOther, InvalidPosition, TooMany,
)
from lanelots.nets import Net
from tests.helpers import (
    GATES_OF_TWO, HUGE, NOT_COUNTS, NOT_GATES_OF_TWO, NOT_INTEGERS, NOT_NETS, NOT_ORDERS_OF_TWO, Case,
)

TOO_MANY_GATES = {"what": "gates", "limit": 400}
ONE = ("add", 0, 1)
FIVE = [("low", 0, 1), ("high", 1, 2), ("sort", 2, 0), ("copy", 0, 2), ("add", 1, -3)]


def adds(many, lanes=1):
    return Net(lanes, [("add", 0, number) for number in range(many)])


class Behind(Case):
    def test_gates_of_both(self):
        one, other = Net(3, FIVE[:2]), Net(3, FIVE[2:])
        self.same(one + other, Net(3, FIVE))
        self.same(other + one, Net(3, FIVE[2:] + FIVE[:2]))
        self.same(one + Net(3), one)
        self.same(Net(3) + one, one)

    def test_other(self):
        for value in NOT_NETS + (Net(2), Net(4), Net(4, FIVE)):
            self.fails(InvalidOther, {"value": value}, lambda: Net(3, FIVE) + value)

    def test_limit(self):
        self.same(len(adds(150) + adds(250)), 400)
        self.fails(TooMany, TOO_MANY_GATES, lambda: adds(150) + adds(251))
        self.fails(InvalidOther, {"value": adds(251, 2)}, lambda: adds(150) + adds(251, 2))


class Times(Case):
    def test_so_many(self):
        net = Net(3, FIVE)
        self.same([net * 0, net * 1, net * 3], [Net(3), net, Net(3, FIVE * 3)])

    def test_without_gates(self):
        for many in (0, 1, 401, 2 ** 62, 2 ** 64, HUGE):
            self.same(Net(4) * many, Net(4))

    def test_many(self):
        for value in NOT_COUNTS:
            self.fails(InvalidMany, {"value": value}, lambda: Net(3, FIVE) * value)
            self.fails(InvalidMany, {"value": value}, lambda: Net(3) * value)

    def test_limit(self):
        self.same(len(Net(3, FIVE) * 80), 400)
        self.same(adds(400) * 1, adds(400))
        for net, many in ((Net(3, FIVE), 81), (adds(400), 2), (adds(1), 401), (adds(1), 2 ** 64), (adds(7), HUGE)):
            self.fails(TooMany, TOO_MANY_GATES, lambda: net * many)


class TurnedAbout(Case):
    def test_each_kind(self):
        self.same(-Net(3, FIVE), Net(3, [("high", 0, 1), ("low", 1, 2), ("sort", 0, 2), ("copy", 0, 2), ("add", 1, 3)]))
        self.same(-Net(1, [("add", 0, 0), ("add", 0, -HUGE)]), Net(1, [("add", 0, 0), ("add", 0, HUGE)]))
        self.same(-Net(6), Net(6))
        self.same(--Net(3, FIVE), Net(3, FIVE))


class Beside(Case):
    def test_lanes_and_gates_behind(self):
        net = Net(3, FIVE).beside(Net(2, [("sort", 0, 1), ("add", 1, 7)]))
        self.same(net, Net(5, FIVE + [("sort", 3, 4), ("add", 4, 7)]))
        self.same(Net(1).beside(Net(1)), Net(2))
        self.same(Net(2).beside(Net(2, GATES_OF_TWO[:2])), Net(4, [("low", 2, 3), ("low", 3, 2)]))

    def test_other(self):
        for value in NOT_NETS:
            self.fails(InvalidOther, {"value": value}, Net(3).beside, value)

    def test_limits(self):
        self.same(Net(5).beside(Net(7)).lanes, 12)
        self.fails(TooMany, {"what": "lanes", "limit": 12}, Net(5).beside, Net(8))
        self.same(len(adds(400).beside(Net(3))), 400)
        self.same(len(adds(399).beside(adds(1))), 400)
        self.fails(TooMany, TOO_MANY_GATES, adds(399).beside, adds(2))
        self.fails(TooMany, {"what": "lanes", "limit": 12}, adds(399, 6).beside, adds(399, 7))


class Renumbered(Case):
    def test_all_gates(self):
        self.same(Net(3, FIVE).renumbered([1, 2, 0]),
                  Net(3, [("low", 1, 2), ("high", 2, 0), ("sort", 0, 1), ("copy", 1, 0), ("add", 2, -3)]))
        self.same(Net(3, FIVE).renumbered((0, 1, 2)), Net(3, FIVE))
        self.same(Net(1, [ONE]).renumbered([0]), Net(1, [ONE]))

    def test_order(self):
        for value in NOT_ORDERS_OF_TWO:
            self.fails(InvalidOrder, {"value": value}, Net(2, GATES_OF_TWO).renumbered, value)


class Wider(Case):
    def test_same_gates(self):
        self.same([Net(3, FIVE).wider(3), Net(3, FIVE).wider(4), Net(3, FIVE).wider(12)],
                  [Net(3, FIVE), Net(4, FIVE), Net(12, FIVE)])

    def test_lanes(self):
        for value in NOT_INTEGERS + (-1, 0, 2, 13, HUGE):
            self.fails(InvalidLanes, {"value": value}, Net(3, FIVE).wider, value)


class WithGate(Case):
    def test_put_in(self):
        net = Net(2, [("low", 0, 1), ("sort", 0, 1)])
        self.same([net.with_gate(place, ONE).gates() for place in range(3)],
                  [[ONE] + net.gates(), [net[0], ONE, net[1]], net.gates() + [ONE]])
        self.same(Net(2).with_gate(0, ONE), Net(2, [ONE]))

    def test_gate(self):
        for value in NOT_GATES_OF_TWO:
            self.fails(InvalidGate, {"value": value}, Net(2, GATES_OF_TWO).with_gate, 1, value)
        for gate in GATES_OF_TWO:
            self.same(Net(2).with_gate(0, gate)[0], gate)

    def test_position(self):
        for value in NOT_COUNTS + (4, 5, HUGE):
            self.fails(InvalidPosition, {"value": value}, Net(2, GATES_OF_TWO[:3]).with_gate, value, ONE)

    def test_limit_and_sequence(self):
        self.same(adds(399).with_gate(399, ONE)[399], ONE)
        self.fails(TooMany, TOO_MANY_GATES, adds(400).with_gate, 400, ONE)
        self.fails(InvalidGate, {"value": None}, adds(400).with_gate, 400, None)
        self.fails(InvalidPosition, {"value": 401}, adds(400).with_gate, 401, None)


class Without(Case):
    def test_each(self):
        net = Net(3, FIVE[:3])
        self.same([net.without(place).gates() for place in range(3)],
                  [[FIVE[1], FIVE[2]], [FIVE[0], FIVE[2]], [FIVE[0], FIVE[1]]])
        self.same(adds(400).without(399), adds(399))

    def test_position(self):
        for value in NOT_COUNTS + (3, 4, HUGE):
            self.fails(InvalidPosition, {"value": value}, Net(3, FIVE[:3]).without, value)
        self.fails(InvalidPosition, {"value": 0}, Net(3).without, 0)


class Cut(Case):
    def test_each(self):
        net = Net(3, FIVE)
        for place in range(6):
            self.same(net.cut(place), (Net(3, FIVE[:place]), Net(3, FIVE[place:])))
        self.same(Net(3).cut(0), (Net(3), Net(3)))

    def test_position(self):
        for value in NOT_COUNTS + (6, 7, HUGE):
            self.fails(InvalidPosition, {"value": value}, Net(3, FIVE).cut, value)


class Exchanged(Case):
    def test_each(self):
        net = Net(3, FIVE[:3])
        self.same([net.exchanged(0).gates(), net.exchanged(1).gates()],
                  [[FIVE[1], FIVE[0], FIVE[2]], [FIVE[0], FIVE[2], FIVE[1]]])
        apart = Net(4, [("low", 0, 1), ("low", 2, 3)])
        self.same(apart.exchanged(0), Net(4, [("low", 2, 3), ("low", 0, 1)]))

    def test_position(self):
        for value in NOT_COUNTS + (2, 3, HUGE):
            self.fails(InvalidPosition, {"value": value}, Net(3, FIVE[:3]).exchanged, value)
        for net in (Net(3), Net(3, FIVE[:1])):
            self.fails(InvalidPosition, {"value": 0}, net.exchanged, 0)


class Whole(Case):
    def test_what_was_asked_stays_as_it_was(self):
        net, other = Net(3, FIVE), Net(3, FIVE[:2])
        results = [net + other, net * 2, -net, net.beside(other), net.renumbered([2, 1, 0]), net.wider(5),
                   net.with_gate(0, FIVE[4]), net.without(0), net.cut(2)[0], net.exchanged(1)]
        for made in results:
            made.gates().clear()
        self.same([net, other], [Net(3, FIVE), Net(3, FIVE[:2])])
        for action, kind in ((lambda: net + None, InvalidOther), (lambda: net * 99, TooMany),
                             (lambda: Net(3, [None]), InvalidGates), (lambda: net.without(5), InvalidPosition)):
            self.assertRaises(kind, action)
        self.same([net, other], [Net(3, FIVE), Net(3, FIVE[:2])])

"""lanelots.runs: gates that touch, shuffles, exchanges, the first shuffle (point 16)."""

from lanelots.errors import InvalidOther, TooMany
from lanelots.nets import Net
from lanelots.runs import (
    are_exchanges, exchanges, first_shuffle, is_shuffle, is_unlike_lane, list_of, unlike_lane,
)
from tests import oracle
from tests.helpers import HUGE, NOT_INTEGERS, NOT_NETS, Case, Draw, drawn_nets

A, B, C = ("low", 0, 1), ("add", 2, 5), ("sort", 3, 4)


def drawn_shuffle(net, draw, times=60):
    """A shuffle of the net, by drawn exchanges."""
    gates = net.gates()
    for _ in range(times if len(gates) > 1 else 0):
        place = draw.below(len(gates) - 1)
        if not oracle.touching(gates[place], gates[place + 1]):
            gates[place], gates[place + 1] = gates[place + 1], gates[place]
    return Net(net.lanes, gates)


def walk(net, places):
    """The net behind these exchanges, one behind another."""
    for place in places:
        net = net.exchanged(place)
    return net


class Shuffles(Case):
    def test_what_touches_stays(self):
        for one, other, wanted in (
            (("add", 0, 1), ("add", 1, 1), True),
            (("add", 0, 1), ("add", 0, 2), False),
            (("add", 0, 1), ("add", 2, 0), True),
            (("low", 0, 1), ("add", 2, 1), True),
            (("low", 0, 1), ("add", 1, 2), False),
            (("low", 0, 1), ("copy", 2, 3), True),
            (("sort", 0, 1), ("copy", 2, 1), False),
            (("high", 2, 3), ("low", 3, 4), False),
            (("high", 1, 0), ("low", 2, 3), True),
        ):
            net, back = Net(5, [one, other]), Net(5, [other, one])
            self.same([is_shuffle(net, back), is_shuffle(back, net), is_shuffle(net, net)], [wanted, wanted, True])
            self.same(exchanges(net, back), [0] if wanted else None)
            self.same(are_exchanges(net, back, [0]), wanted)

    def test_other_lanes_and_gates(self):
        net = Net(5, [A, B, C])
        for other in (Net(6, [A, B, C]), Net(5, [A, B]), Net(5, [A, B, C, C]), Net(5, [A, A, C]), Net(5),
                      Net(5, [A, ("add", 2, 6), C])):
            self.same([is_shuffle(net, other), is_shuffle(other, net)], [False, False])
            self.same([exchanges(net, other), exchanges(other, net)], [None, None])
        self.same(is_shuffle(Net(2), Net(3)), False)
        self.same([is_shuffle(Net(2), Net(2)), exchanges(Net(2), Net(2))], [True, []])

    def test_drawn_against_all_shuffles(self):
        for net, draw in drawn_nets(120, most_lanes=5, most_gates=6):
            every = oracle.shuffles(net.gates())
            self.same(first_shuffle(net), Net(net.lanes, min(every)))
            for gates, fewest in every.items():
                other = Net(net.lanes, gates)
                found = exchanges(net, other)
                self.assertEqual(len(found), fewest)
                self.assertEqual(walk(net, found), other)
                self.assertTrue(are_exchanges(net, other, found))
                self.assertTrue(is_shuffle(net, other))
                self.assertEqual(first_shuffle(other), first_shuffle(net))
            mixed = Net(net.lanes, [net[place] for place in draw.order(len(net))])
            self.same(is_shuffle(net, mixed), tuple(mixed.gates()) in every)
            self.same(exchanges(net, mixed) is None, tuple(mixed.gates()) not in every)

    def test_facts_at_drawn_nets(self):
        for net, draw in drawn_nets(60, least_lanes=4):
            other = drawn_shuffle(net, draw)
            self.assertTrue(is_shuffle(net, other))
            self.assertEqual([list_of(net, lane) for lane in range(net.lanes)],
                             [list_of(other, lane) for lane in range(net.lanes)])
            content = draw.content(net.lanes, 9)
            self.assertEqual(net(content), other(content))
            self.assertEqual(first_shuffle(net), first_shuffle(other))
            self.assertEqual(walk(net, exchanges(net, other)), other)
            self.assertEqual(len(exchanges(net, other)), len(exchanges(other, net)))


class FirstShuffle(Case):
    def test_plain_cases(self):
        self.same(first_shuffle(Net(5, [C, A, B])), Net(5, [B, A, C]))
        self.same(first_shuffle(Net(2)), Net(2))
        self.same(first_shuffle(Net(2, [("sort", 0, 1), ("add", 0, 1)])), Net(2, [("sort", 0, 1), ("add", 0, 1)]))

    def test_a_lesser_gate_waits_for_those_it_touches(self):
        net = Net(4, [("sort", 2, 3), ("low", 0, 1), ("add", 3, 0)])
        self.same(first_shuffle(net), Net(4, [("low", 0, 1), ("sort", 2, 3), ("add", 3, 0)]))

    def test_words_lanes_and_numbers_are_compared(self):
        gates = [("sort", 10, 11), ("low", 8, 9), ("high", 6, 7), ("copy", 4, 5), ("copy", 2, 3), ("add", 1, -4),
                 ("add", 0, 3)]
        self.same(first_shuffle(Net(12, gates)), Net(12, gates[::-1]))

    def test_full(self):
        net = Net(12, Draw(3).gates(12, 400))
        self.assertTrue(is_shuffle(net, first_shuffle(net)))
        self.same(first_shuffle(first_shuffle(net)), first_shuffle(net))


class Exchanges(Case):
    def test_equal_gates(self):
        net = Net(3, [("add", 0, 1), ("add", 0, 1), ("add", 1, 1), ("add", 2, 7)])
        other = Net(3, [("add", 1, 1), ("add", 0, 1), ("add", 2, 7), ("add", 0, 1)])
        found = exchanges(net, other)
        self.assertEqual(len(found), 3)
        self.assertEqual(walk(net, found), other)

    def test_most(self):
        # 25 gates behind 40 that they do not touch: 1000 pairs, and one more with another lane.
        ahead, behind = [("add", 0, k) for k in range(40)], [("add", 1, k) for k in range(25)]
        net, other = Net(4, ahead + behind), Net(4, behind + ahead)
        found = exchanges(net, other)
        self.assertEqual(len(found), 1000)
        self.same(are_exchanges(net, other, found), True)
        more = [("add", 2, 0), ("add", 3, 0)]
        self.fails(TooMany, {"what": "exchanges", "limit": 1000}, exchanges, Net(4, ahead + behind + more),
                   Net(4, behind + ahead + more[::-1]))
        self.same(exchanges(Net(4, ahead + behind + more), Net(4, behind + more + ahead[1:] + ahead[:1])), None)

    def test_a_full_net_turned_round(self):
        gates = [("add", 0, 0)] * 200 + [("add", 1, 0)] * 200
        self.fails(TooMany, {"what": "exchanges", "limit": 1000}, exchanges, Net(2, gates), Net(2, gates[::-1]))
        self.same(exchanges(Net(2, gates), Net(2, gates)), [])


class AreExchanges(Case):
    def test_the_fewest_or_not(self):
        net, other = Net(5, [A, B, C]), Net(5, [C, B, A])
        for value in ([0, 1, 0], [1, 0, 1], (1, 0, 1), [0, 0, 0, 1, 0], [1, 1, 0, 1, 0]):
            self.same(are_exchanges(net, other, value), True)
        for value in ([], [0], [0, 1], [1, 0], [0, 1, 0, 0], [0, 1, 1]):
            self.same(are_exchanges(net, other, value), False)
        self.same([are_exchanges(net, net, value) for value in ([], (), [0, 0], [0])], [True, True, True, False])

    def test_other_values(self):
        net, other = Net(5, [A, B, C]), Net(5, [B, A, C])
        self.same(are_exchanges(net, other, [0]), True)
        for value in (None, True, False, 0, 1, "", "0", {}, {0: 0}, net, [True], [False], [None], ["0"], [[0]], [(0,)],
                      [-1], [-3], [2], [3], [HUGE], [0, 2], [0, None], [0, -1, -1]):
            self.same(are_exchanges(net, other, value), False)
        self.same(are_exchanges(net, Net(5, [A, C, B]), [True]), False)

    def test_neighbours_that_touch(self):
        net = Net(3, [("add", 0, 1), ("add", 0, 2), ("add", 1, 1)])
        self.same(are_exchanges(net, net, [0, 0]), False)
        self.same(are_exchanges(net, Net(3, [net[1], net[0], net[2]]), [0]), False)
        same = Net(3, [("add", 0, 1), ("add", 0, 1)])
        self.same(are_exchanges(same, same, [0]), False)

    def test_other_lanes(self):
        self.same(are_exchanges(Net(5, [A, B]), Net(6, [A, B]), []), False)
        self.same(are_exchanges(Net(5), Net(6), []), False)
        self.same(are_exchanges(Net(5), Net(5), []), True)
        for value in ([0], [None], [-1]):
            self.same(are_exchanges(Net(5), Net(5), value), False)
            self.same(are_exchanges(Net(5, [A]), Net(5, [A]), value), False)


class UnlikeLanes(Case):
    def test_the_least_one(self):
        net = Net(5, [A, B, C, ("copy", 3, 0)])
        for other, wanted in ((Net(5, [A, C, B, ("copy", 3, 0)]), None), (Net(5, [A, B, ("copy", 3, 0), C]), 3),
                              (Net(5, [A, C, ("copy", 3, 0)]), 2), (Net(5, [B, C]), 0), (Net(5, net.gates() * 2), 0),
                              (Net(5, net.gates() + [("low", 4, 1)]), 1)):
            self.same([unlike_lane(net, other), unlike_lane(other, net)], [wanted, wanted])
        self.same(unlike_lane(Net(1), Net(1)), None)

    def test_whether_a_value_is_one(self):
        net, other = Net(5, [A, B, C]), Net(5, [A, ("add", 4, 5), C])
        self.same([is_unlike_lane(net, other, lane) for lane in range(5)], [False, False, True, False, True])
        for value in NOT_INTEGERS + (-1, -3, 5, HUGE, "2", [2]):
            self.same(is_unlike_lane(net, other, value), False)
        on_the_first_two = Net(5, [("low", 1, 0), B, C])
        self.same([is_unlike_lane(net, on_the_first_two, value) for value in (0, False, 1, True)],
                  [True, False, True, False])

    def test_drawn(self):
        for net, draw in drawn_nets(60, most_lanes=6):
            other = Net(net.lanes, [net[place] for place in draw.order(len(net))])
            unlike = [lane for lane in range(net.lanes) if list_of(net, lane) != list_of(other, lane)]
            self.same(unlike_lane(net, other), unlike[0] if unlike else None)
            self.same([lane for lane in range(net.lanes) if is_unlike_lane(net, other, lane)], unlike)
            self.same(is_shuffle(net, other), not unlike)


class Wrong(Case):
    def test_other_is_no_net(self):
        net = Net(2, [("low", 0, 1)])
        for value in NOT_NETS:
            for told in (is_shuffle, exchanges, unlike_lane):
                self.fails(InvalidOther, {"value": value}, told, net, value)
            for told in (are_exchanges, is_unlike_lane):
                self.fails(InvalidOther, {"value": value}, told, net, value, None)

    def test_other_has_unlike_lanes(self):
        net = Net(2, [("low", 0, 1)])
        for other in (Net(1), Net(3, [("low", 0, 1)])):
            self.fails(InvalidOther, {"value": other}, unlike_lane, net, other)
            self.fails(InvalidOther, {"value": other}, is_unlike_lane, net, other, 0)
            self.fails(InvalidOther, {"value": other}, is_unlike_lane, net, other, None)

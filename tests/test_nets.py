"""lanelots.nets: gates, nets, runs, plain nets (point 11)."""

from lanelots.errors import InvalidContent, InvalidGates, InvalidLanes, InvalidPosition, TooMany
from lanelots.nets import Net
from tests import oracle
from tests.helpers import (
    GATES_OF_TWO, HUGE, NOT_CONTENTS_OF_TWO, NOT_COUNTS, NOT_GATES_OF_TWO, NOT_INTEGERS, NOT_LISTS, Case, drawn_contents,
    drawn_nets,
)

GATES = [("low", 0, 1), ("sort", 1, 2), ("add", 0, 2)]


class Made(Case):
    def test_example(self):
        net = Net(3, [("low", 0, 1), ("sort", 1, 2), ("add", 0, 2)])
        self.same([net([5, 3, 1]), (-net)[1], len(net + net), net.without(1)],
                  [[5, 1, 3], ("sort", 2, 1), 6, Net(3, [("low", 0, 1), ("add", 0, 2)])])

    def test_parts(self):
        net = Net(3, GATES)
        self.same([net.lanes, net.gates(), len(net)], [3, GATES, 3])
        self.same([net[0], net[1], net[2]], GATES)
        self.same([Net(7).lanes, Net(7).gates(), len(Net(7))], [7, [], 0])

    def test_tuples_are_taken_and_lists_told(self):
        self.same(Net(3, tuple(GATES)).gates(), GATES)
        self.same(Net(3, ()).gates(), [])
        self.same([type(gate) for gate in Net(3, GATES).gates()], [tuple] * 3)

    def test_of(self):
        self.same(Net.of(3, *GATES), Net(3, GATES))
        self.same(Net.of(5), Net(5, []))
        self.same(Net.of(lanes=1), Net(1))

    def test_class_values(self):
        self.same([Net.MOST_LANES, Net.MOST_GATES, Net(1).MOST_LANES, Net(1).MOST_GATES], [12, 400, 12, 400])

    def test_is_plain(self):
        self.same(Net(2).is_plain, True)
        self.same(Net(2, [("low", 0, 1), ("high", 1, 0), ("sort", 0, 1), ("copy", 1, 0)]).is_plain, True)
        self.same(Net(2, [("low", 0, 1), ("add", 0, 1)]).is_plain, False)
        self.same(Net(1, [("add", 0, 0)]).is_plain, False)

    def test_equal(self):
        net = Net(3, GATES)
        self.same([net == Net(3, tuple(GATES)), net != Net(3, GATES), net == net], [True, False, True])
        for other in (Net(4, GATES), Net(3, GATES[:2]), Net(3, GATES[::-1]), Net(3), -net):
            self.same([net == other, other == net, net != other], [False, False, True])
        for other in (None, 3, GATES, (3, GATES), repr(net), True):
            self.same([net == other, other == net, net != other], [False, False, True])

    def test_repr(self):
        self.assertEqual(repr(Net(2, [("low", 0, 1), ("add", 0, 2)])), "Net(2, [('low', 0, 1), ('add', 0, 2)])")
        self.assertEqual(repr(Net(12, ())), "Net(12, [])")
        self.assertEqual(repr(Net(1, (("add", 0, -HUGE),))), f"Net(1, [('add', 0, {-HUGE})])")

    def test_not_iterated_over(self):
        with self.assertRaises(TypeError):
            list(Net(3, GATES))

    def test_never_changes(self):
        net = Net(3, GATES)
        for name in ("lanes", "is_plain"):
            with self.assertRaises(AttributeError):
                setattr(net, name, 2)


class Limits(Case):
    def test_lanes(self):
        for lanes in range(1, 13):
            self.same(Net(lanes).lanes, lanes)
        for value in NOT_INTEGERS + (0, -1, 13, HUGE, -HUGE):
            self.fails(InvalidLanes, {"value": value}, Net, value)
            self.fails(InvalidLanes, {"value": value}, Net.of, value, ("low", 0, 1))

    def test_gates_are_a_list(self):
        for value in NOT_LISTS:
            self.fails(InvalidGates, {"position": None}, Net, 2, value)

    def test_each_gate(self):
        for gate in NOT_GATES_OF_TWO:
            self.fails(InvalidGates, {"position": 0}, Net, 2, [gate])
            self.fails(InvalidGates, {"position": 2}, Net, 2, (("low", 0, 1), ("add", 1, 0), gate, gate))
            self.fails(InvalidGates, {"position": 1}, Net.of, 2, ("low", 0, 1), gate)
        for gate in GATES_OF_TWO:
            self.same(Net(2, [gate])[0], gate)

    def test_the_last_lane(self):
        for lanes in range(2, 13):
            for word in ("low", "high", "sort", "copy"):
                for gate in ((word, 0, lanes - 1), (word, lanes - 1, 0)):
                    self.same(Net(lanes, [gate])[0], gate)
                for gate in ((word, 0, lanes), (word, lanes, 0)):
                    self.fails(InvalidGates, {"position": 0}, Net, lanes, [gate])
        self.same(Net(1, [("add", 0, 1)])[0], ("add", 0, 1))
        self.fails(InvalidGates, {"position": 0}, Net, 1, [("add", 1, 1)])
        self.fails(InvalidGates, {"position": 0}, Net, 1, [("low", 0, 1)])

    def test_most_gates(self):
        full = [("add", 0, 1)] * 400
        self.same([len(Net(1, full)), len(Net.of(1, *full))], [400, 400])
        self.same(Net(1, full)([0]), [400])
        self.fails(TooMany, {"what": "gates", "limit": 400}, Net, 1, full + full[:1])
        self.fails(TooMany, {"what": "gates", "limit": 400}, Net.of, 1, *full, ("add", 0, 1))

    def test_sequence_of_errors(self):
        self.fails(InvalidLanes, {"value": 0}, Net, 0, None)
        self.fails(InvalidLanes, {"value": True}, Net, True, [None])
        self.fails(InvalidGates, {"position": 400}, Net, 1, [("add", 0, 1)] * 400 + [None])
        self.fails(InvalidGates, {"position": 450}, Net, 1, [("add", 0, 1)] * 450 + [("add", 0, True)] * 3)

    def test_item(self):
        net = Net(3, GATES)
        for value in NOT_COUNTS + (3, 4, HUGE, slice(0, 1)):
            self.fails(InvalidPosition, {"value": value}, lambda: net[value])
        self.fails(InvalidPosition, {"value": 0}, lambda: Net(3)[0])

    def test_content(self):
        for value in NOT_CONTENTS_OF_TWO:
            self.fails(InvalidContent, {"value": value}, Net(2, GATES_OF_TWO), value)
            self.fails(InvalidContent, {"value": value}, Net(2), value)


class Runs(Case):
    def test_each_kind_of_gate(self):
        # The lesser one on lane 0, the greater one there, and equal ones; lane 2 always stays.
        for gate, wanted in (
            (("low", 0, 1), [[3, 8, 5], [3, 3, 5], [4, 4, 5]]),
            (("low", 1, 0), [[3, 3, 5], [8, 3, 5], [4, 4, 5]]),
            (("high", 0, 1), [[8, 8, 5], [8, 3, 5], [4, 4, 5]]),
            (("high", 1, 0), [[3, 8, 5], [8, 8, 5], [4, 4, 5]]),
            (("sort", 0, 1), [[3, 8, 5], [3, 8, 5], [4, 4, 5]]),
            (("sort", 1, 0), [[8, 3, 5], [8, 3, 5], [4, 4, 5]]),
            (("copy", 0, 1), [[8, 8, 5], [3, 3, 5], [4, 4, 5]]),
            (("copy", 1, 0), [[3, 3, 5], [8, 8, 5], [4, 4, 5]]),
            (("add", 0, 6), [[9, 8, 5], [14, 3, 5], [10, 4, 5]]),
            (("add", 1, -6), [[3, 2, 5], [8, -3, 5], [4, -2, 5]]),
        ):
            net = Net(3, [gate])
            self.same([net([3, 8, 5]), net((8, 3, 5)), net([4, 4, 5])], wanted)

    def test_one_behind_another(self):
        self.same(Net(2, [("copy", 0, 1), ("add", 1, 1), ("low", 1, 0)])([0, 5]), [5, 5])
        self.same(Net(2, [("add", 1, 1), ("copy", 0, 1)])([0, 5]), [6, 6])
        self.same(Net(2)((3, 4)), [3, 4])

    def test_long_numbers(self):
        self.same(Net(2, [("add", 0, 1), ("high", 1, 0)])([HUGE, HUGE]), [10 ** 30, 10 ** 30])
        self.same(Net(2, [("sort", 0, 1), ("add", 0, -HUGE)])([HUGE - 1, HUGE - 2]), [-2, HUGE - 1])

    def test_drawn_nets(self):
        for net, draw in drawn_nets(150):
            for content in drawn_contents(draw, net.lanes):
                self.same(net(content), oracle.told(net.gates(), content))

    def test_a_full_net(self):
        net, draw = drawn_nets(1, 12, 30, least_lanes=12)[0]
        full = Net(12, draw.gates(12, 400))
        content = draw.content(12, 50)
        self.same(full(content), oracle.told(full.gates(), content))
        self.assertEqual(len(net.wider(12)), len(net))

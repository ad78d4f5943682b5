"""lanelots.runs: levels and layers (point 17), cones and lanes that are looked at (point 18)."""

from lanelots.errors import InvalidLane
from lanelots.nets import Net
from lanelots.runs import by_layers, cone, cone_net, is_shuffle, layers, list_of, looked_at
from tests import oracle
from tests.helpers import HUGE, NOT_COUNTS, Case, drawn_contents, drawn_nets


class Layers(Case):
    def test_plain_cases(self):
        self.same(layers(Net(3)), [])
        self.same(layers(Net(1, [("add", 0, 1)] * 3)), [[0], [1], [2]])
        self.same(layers(Net(6, [("low", 0, 1), ("add", 3, 1), ("sort", 4, 5)])), [[0, 1, 2]])
        self.same(layers(Net(4, [("low", 0, 1), ("low", 2, 3), ("copy", 1, 2), ("add", 0, 5), ("high", 3, 0)])),
                  [[0, 1], [2, 3], [4]])

    def test_a_gate_of_later_place_may_have_a_lower_level(self):
        net = Net(3, [("add", 0, 1), ("add", 0, 2), ("add", 1, 3), ("sort", 2, 0), ("add", 1, 4)])
        self.same(layers(net), [[0, 2], [1, 4], [3]])
        self.same(by_layers(net), Net(3, [net[0], net[2], net[1], net[4], net[3]]))

    def test_drawn(self):
        for net, draw in drawn_nets(80):
            levels = oracle.levels(net.gates())
            self.same(layers(net), [[place for place in range(len(net)) if levels[place] == level]
                                    for level in sorted(set(levels))])
            for places in layers(net):
                for one in places:
                    self.assertFalse([two for two in places if one < two and oracle.touching(net[one], net[two])])

    def test_layers_in_any_sequence_are_a_shuffle(self):
        for net, draw in drawn_nets(60):
            gates = [net[place] for places in layers(net) for place in places]
            self.same(by_layers(net), Net(net.lanes, gates))
            self.assertTrue(is_shuffle(net, by_layers(net)))
            mixed = [net[places[k]] for places in layers(net) for k in draw.order(len(places))]
            self.assertTrue(is_shuffle(net, Net(net.lanes, mixed)))

    def test_none_has_fewer(self):
        for net, _ in drawn_nets(60, most_lanes=5, most_gates=7):
            fewest = len(net) + 1
            for gates in oracle.shuffles(net.gates()):
                many, last = 0, []
                for gate in gates:
                    if many == 0 or [other for other in last if oracle.touching(gate, other)]:
                        many, last = many + 1, []
                    last.append(gate)
                fewest = min(fewest, many)
            self.assertEqual(len(layers(net)), fewest)

    def test_full(self):
        self.same(layers(Net(1, [("add", 0, 0)] * 400)), [[place] for place in range(400)])


class Lists(Case):
    def test_all_gates_that_have_the_lane(self):
        net = Net(4, [("low", 0, 1), ("add", 2, 1), ("sort", 1, 0), ("add", 2, 0), ("copy", 2, 0), ("low", 0, 1)])
        self.same([list_of(net, lane) for lane in range(4)], [
            [net[0], net[2], net[4], net[5]], [net[0], net[2], net[5]], [net[1], net[3], net[4]], [],
        ])

    def test_a_number_is_no_lane(self):
        net = Net(3, [("add", 0, 1), ("add", 0, 2)])
        self.same([list_of(net, 1), list_of(net, 2)], [[], []])
        self.same(list_of(Net(12), 11), [])


class Cones(Case):
    def test_each_kind(self):
        for gate, wanted in (
            (("low", 0, 1), ([0], [0, 1])),
            (("high", 0, 1), ([0], [0, 1])),
            (("sort", 0, 1), ([0], [0, 1])),
            (("sort", 1, 0), ([0], [0, 1])),
            (("copy", 0, 1), ([0], [1])),
            (("add", 0, 1), ([0], [0])),
            (("add", 0, 0), ([0], [0])),
            (("low", 1, 0), ([], [0])),
            (("high", 1, 0), ([], [0])),
            (("copy", 1, 0), ([], [0])),
            (("add", 1, 0), ([], [0])),
            (("sort", 1, 2), ([], [0])),
        ):
            net = Net(3, [gate])
            self.same((cone(net, 0), looked_at(net, 0)), wanted)

    def test_by_going_back(self):
        net = Net(4, [("add", 0, 1), ("sort", 2, 3), ("copy", 0, 2), ("add", 1, 5), ("low", 1, 3), ("high", 0, 1)])
        self.same([cone(net, lane) for lane in range(4)], [[1, 2, 3, 4, 5], [1, 3, 4], [1], [1]])
        self.same([looked_at(net, lane) for lane in range(4)], [[1, 2, 3], [1, 2, 3], [2, 3], [2, 3]])
        self.same(cone_net(net, 1), Net(4, [net[1], net[3], net[4]]))
        self.same(cone_net(net, 2), Net(4, [net[1]]))

    def test_copied_over_gates_are_left_out(self):
        net = Net(2, [("add", 0, 1), ("low", 0, 1), ("copy", 0, 1), ("copy", 1, 0)])
        self.same([cone(net, 0), cone(net, 1)], [[2], [2, 3]])
        self.same([looked_at(net, 0), looked_at(net, 1)], [[1], [1]])

    def test_no_gates(self):
        self.same([cone(Net(12), 11), looked_at(Net(12), 11), cone_net(Net(12), 11)], [[], [11], Net(12)])

    def test_drawn(self):
        for net, _ in drawn_nets(120):
            for lane in range(net.lanes):
                places, lanes = oracle.cone(net.gates(), lane)
                self.same([cone(net, lane), looked_at(net, lane)], [places, lanes])
                self.same(cone_net(net, lane), Net(net.lanes, [net[place] for place in places]))

    def test_facts_at_drawn_nets(self):
        for net, draw in drawn_nets(60):
            for content in drawn_contents(draw, net.lanes):
                for lane in range(net.lanes):
                    self.assertEqual(cone_net(net, lane)(content)[lane], net(content)[lane])
                    looked = looked_at(net, lane)
                    others = [content[k] if k in looked else draw.number(99) for k in range(net.lanes)]
                    self.assertEqual(net(others)[lane], net(content)[lane])


class Wrong(Case):
    def test_lane(self):
        for told in (list_of, cone, cone_net, looked_at):
            for value in NOT_COUNTS + (3, 4, 12, HUGE):
                self.fails(InvalidLane, {"value": value}, told, Net(3, [("low", 0, 1)]), value)
                self.fails(InvalidLane, {"value": value}, told, Net(3), value)

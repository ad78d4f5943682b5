"""lanelots.runs: contents, origins (point 13) and rounds (point 14)."""

from lanelots.errors import InvalidContent, InvalidMany, TooMany
from lanelots.nets import Net
from lanelots.runs import cone, contents, layers, origins, passed, rounds
from tests.helpers import HUGE, NOT_CONTENTS_OF_TWO, NOT_COUNTS, Case, drawn_contents, drawn_nets

NET = Net(3, [("low", 0, 1), ("sort", 1, 2), ("add", 0, 2)])


class Contents(Case):
    def test_example(self):
        net = Net(3, [("low", 0, 1), ("sort", 1, 2), ("add", 0, 2)])
        self.same([origins(net, [5, 3, 1]), rounds(net, [5, 3, 1], 2), layers(net), cone(net, 0)],
                  [[(1, 2), (2, 0), (1, 0)], [3, 1, 3], [[0], [1, 2]], [0, 2]])

    def test_ahead_and_behind_each_gate(self):
        self.same(contents(NET, (5, 3, 1)), [[5, 3, 1], [3, 3, 1], [3, 1, 3], [5, 1, 3]])
        self.same(contents(Net(2), (4, 5)), [[4, 5]])

    def test_drawn(self):
        for net, draw in drawn_nets(40):
            for content in drawn_contents(draw, net.lanes):
                self.same(contents(net, content), [net.cut(place)[0](content) for place in range(len(net) + 1)])

    def test_new_lists(self):
        net = Net(2, [("low", 0, 1), ("low", 0, 1)])
        found = contents(net, [3, 3])
        for told in found:
            told.append(9)
        self.same(found, [[3, 3, 9]] * 3)


class Origins(Case):
    def test_no_gates(self):
        self.same(origins(Net(3), (7, 7, 7)), [(0, 0), (1, 0), (2, 0)])

    def test_each_kind(self):
        # The lesser number on lane 0, then the greater one there, then equal ones: each keeps its own.
        own, changed = [(0, 0), (1, 0)], [(1, 0), (0, 0)]
        ones, noughts = [(1, 0), (1, 0)], [(0, 0), (0, 0)]
        for gate, wanted in (
            (("low", 0, 1), [own, ones, own]),
            (("low", 1, 0), [noughts, own, own]),
            (("high", 0, 1), [ones, own, own]),
            (("high", 1, 0), [own, noughts, own]),
            (("sort", 0, 1), [own, changed, own]),
            (("sort", 1, 0), [changed, own, own]),
            (("copy", 0, 1), [ones, ones, ones]),
            (("copy", 1, 0), [noughts, noughts, noughts]),
            (("add", 0, 4), [[(0, 4), (1, 0)]] * 3),
            (("add", 1, -4), [[(0, 0), (1, -4)]] * 3),
        ):
            net = Net(2, [gate])
            self.same([origins(net, [1, 2]), origins(net, [2, 1]), origins(net, [1, 1])], wanted)

    def test_sums_go_along(self):
        net = Net(2, [("add", 1, 5), ("copy", 0, 1), ("add", 0, -2), ("add", 1, HUGE), ("low", 1, 0)])
        self.same(origins(net, [0, 0]), [(1, 3), (1, 3)])

    def test_equal_behind_a_sum(self):
        net = Net(2, [("add", 0, 2), ("sort", 0, 1), ("high", 1, 0), ("low", 0, 1)])
        self.same(origins(net, [1, 3]), [(0, 2), (1, 0)])

    def test_fact_at_drawn_nets(self):
        for net, draw in drawn_nets(100):
            for content in drawn_contents(draw, net.lanes):
                told = origins(net, content)
                self.assertEqual([content[first] + more for first, more in told], net(content))
                self.assertEqual([type(origin) for origin in told], [tuple] * net.lanes)

    def test_content(self):
        for value in NOT_CONTENTS_OF_TWO:
            for net in (Net(2), Net(2, [("low", 0, 1)])):
                self.fails(InvalidContent, {"value": value}, origins, net, value)
                self.fails(InvalidContent, {"value": value}, contents, net, value)


class Rounds(Case):
    def test_none_one_and_some(self):
        net = Net(2, [("low", 0, 1), ("add", 0, 2)])
        self.same([rounds(net, (9, 3), many) for many in range(3)], [[9, 3], [5, 3], [5, 3]])
        self.same(passed(net, (9, 3), 2), [[9, 3], [5, 3], [5, 3]])
        self.same(passed(net, (9, 3), 0), [[9, 3]])

    def test_without_gates(self):
        self.same(rounds(Net(2), (1, 2), 1000), [1, 2])
        self.same(passed(Net(2), (1, 2), 2), [[1, 2]] * 3)

    def test_most(self):
        net = Net(1, [("add", 0, HUGE)])
        self.same(rounds(net, [-1], 1000), [1000 * HUGE - 1])
        self.same(passed(net, [0], 1000), [[many * HUGE] for many in range(1001)])
        for many in (1001, HUGE):
            for told in (rounds, passed):
                self.fails(TooMany, {"what": "rounds", "limit": 1000}, told, net, [0], many)
                self.fails(TooMany, {"what": "rounds", "limit": 1000}, told, Net(1), [0], many)

    def test_drawn(self):
        for net, draw in drawn_nets(40):
            for content in drawn_contents(draw, net.lanes):
                wanted = [content]
                for _ in range(6):
                    wanted.append(net(wanted[-1]))
                self.same(passed(net, content, 6), wanted)
                self.same([rounds(net, content, many) for many in range(7)], wanted)
                self.same(rounds(net, content, 6), (net * 6)(content))

    def test_new_lists(self):
        found = passed(Net(2), [3, 3], 3)
        for told in found:
            told.append(9)
        self.same(found, [[3, 3, 9]] * 4)

    def test_wrong(self):
        for told in (rounds, passed):
            for value in NOT_CONTENTS_OF_TWO:
                self.fails(InvalidContent, {"value": value}, told, Net(2), value, 1)
            for value in NOT_COUNTS:
                self.fails(InvalidMany, {"value": value}, told, Net(2), [1, 2], value)
            self.fails(InvalidContent, {"value": [1]}, told, Net(2), [1], -1)
            self.fails(InvalidContent, {"value": [1]}, told, Net(2), [1], 1001)

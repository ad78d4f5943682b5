"""lanelots.told: the map of a net, nets that are alike, what a lane hangs on, and how much it rises (33, 34)."""

from lanelots.basics import moved
from lanelots.errors import InvalidLane, InvalidOther, InvalidPosition, TooMany
from lanelots.families import Family
from lanelots.maps import Map
from lanelots.nets import Net
from lanelots.told import are_alike, lanes_hung, map_behind, map_of, may_change, rise, shown, unlike
from tests import lot_oracle, oracle
from tests.helpers import (
    HUGE, NOT_COUNTS, NOT_LANES_OF_TWELVE, NOT_LANES_OF_TWO, NOT_NETS, Case, Draw, drawn_contents, drawn_nets,
)

SIXTY = {"what": "lots", "limit": 60}
# Lane 2 has the lots of a lane of 0 to 2, one of 3 to 6 and one of 7 to 11, behind these gates; 0, 1, 3 and 7 stay.
TO_SIXTY = [
    ("low", 2, 0), ("low", 2, 1), ("low", 6, 3), ("low", 6, 4), ("low", 6, 5), ("low", 11, 7), ("low", 11, 8),
    ("low", 11, 9), ("low", 11, 10), ("high", 2, 6), ("high", 2, 11),
]
# One lot more, behind the last one of these alone.
TO_MORE = TO_SIXTY + [("high", 0, 1), ("low", 2, 0)]
AGAIN = TO_MORE + [("copy", 2, 3)]
EXAMPLE = Net(3, [("sort", 0, 1), ("high", 1, 2), ("add", 0, 4)])


def told_lots(net):
    """The lots of each lane behind the net, without haste."""
    found = [[((lane, 0),)] for lane in range(net.lanes)]
    for word, i, j in net.gates():
        had = list(found)
        if word == "add":
            found[i] = lot_oracle.raised(had[i], j)
        elif word == "copy":
            found[i] = had[j]
        if word in ("low", "sort"):
            found[i] = lot_oracle.family(had[i] + had[j])
        if word in ("high", "sort"):
            joins = lot_oracle.family([lot_oracle.joined(pair, max) for pair in
                                       [(one, other) for one in had[i] for other in had[j]]])
            found[i if word == "high" else j] = joins
    return found


class Maps(Case):
    def test_examples(self):
        net = Net(3, [("sort", 0, 1), ("high", 1, 2), ("add", 0, 4)])
        self.same([map_of(net)[0].lots(), lanes_hung(net, 1), shown(net, 0, 1), shown(net, 2, 0)],
                  [[((0, 4),), ((1, 4),)], [0, 1, 2], ([1, -4, 1], [1, -3, 1]), None])
        self.same([may_change(net, 0), may_change(net, 1), unlike(net, Net(3, [("low", 0, 1), ("add", 0, 4)]))],
                  [False, True, (1, [1, 0, 1])])
        self.same([rise(Net(2, [("low", 0, 1)]), 0, 0), rise(Net(2, [("low", 0, 1)]), 1, 0)],
                  [[(0, 1), (0, 0)], [(1, 1), (0, 0)]])

    def test_each_kind_of_gate(self):
        one, other = ((0, 0),), ((1, 0),)
        for gate, wanted in (
            (("low", 0, 1), [[one, other], [other]]), (("high", 0, 1), [[one + other], [other]]),
            (("sort", 0, 1), [[one, other], [one + other]]), (("sort", 1, 0), [[one + other], [one, other]]),
            (("copy", 0, 1), [[other], [other]]), (("add", 0, -HUGE), [[((0, -HUGE),)], [other]]),
            (("low", 1, 0), [[one], [one, other]]), (("high", 1, 0), [[one], [one + other]]),
            (("copy", 1, 0), [[one], [one]]), (("add", 1, 3), [[one], [((1, 3),)]]),
        ):
            self.same([family.lots() for family in map_of(Net(2, [gate])).families()], wanted)

    def test_drawn_nets(self):
        for net, draw in drawn_nets(120, 5, 12):
            chart = map_of(net)
            self.same([family.lots() for family in chart.families()], told_lots(net))
            for content in drawn_contents(draw, net.lanes):
                self.same(chart(content), oracle.told(net.gates(), content))

    def test_behind_some_gates(self):
        for net, _ in drawn_nets(40, 4, 8):
            for position in range(len(net) + 1):
                self.same(map_behind(net, position), map_of(net.cut(position)[0]))
            self.same(map_behind(net, 0), Map.same(net.lanes))
        for value in NOT_COUNTS + (4, 5, HUGE):
            self.fails(InvalidPosition, {"value": value}, map_behind, EXAMPLE, value)

    def test_nets_behind_one_another(self):
        for net, draw in drawn_nets(60, 4, 6):
            other = draw.net(net.lanes, draw.below(6))
            self.same(map_of(net + other), map_of(net) + map_of(other))
            self.same(map_of(-net), -map_of(net))
            order = draw.order(net.lanes)
            self.same(map_of(net.renumbered(order)), map_of(net).renumbered(order))
            self.same(map_of(net.beside(other)), map_of(net).beside(map_of(other)))

    def test_no_gates_and_many(self):
        for lanes in (1, 2, 12):
            self.same(map_of(Net(lanes)), Map.same(lanes))
            self.same(map_of(Net(lanes, [("add", lanes - 1, 3)] * 400))[lanes - 1], Family([((lanes - 1, 1200),)]))
        self.same(map_of(Net(12, [("sort", 11, 0), ("sort", 0, 11)] * 200)), map_of(Net(12, [("sort", 0, 11)])))
        wide = map_of(Net(12, [("high", 0, lane) for lane in range(1, 12)]))
        self.same(wide[0].lots(), [tuple((lane, 0) for lane in range(12))])


class Limits(Case):
    def test_sixty_lots(self):
        net = Net(12, TO_SIXTY)
        self.same([len(family) for family in map_of(net).families()][2], 60)
        self.same([lanes_hung(net, 2), len(map_behind(net, 11)[2])], [list(range(12)), 60])
        self.same([are_alike(net, net), unlike(net, net), may_change(net, 0)], [True, None, True])
        self.same(rise(net, 11, 2), [(1, 1) if lane == 2 else (0, 0) for lane in range(12)])
        self.same(shown(net, 2, 0), ([0, 1, 1, 0, 1, 1, 1, 0, 1, 1, 1, 1], [1, 1, 1, 0, 1, 1, 1, 0, 1, 1, 1, 1]))

    def test_more_lots(self):
        for net in (Net(12, TO_MORE), Net(12, AGAIN)):
            for action in (lambda: map_of(net), lambda: map_behind(net, 13), lambda: lanes_hung(net, 9),
                           lambda: shown(net, 9, 8), lambda: rise(net, 0, 9), lambda: are_alike(net, Net(12)),
                           lambda: are_alike(Net(12), net), lambda: unlike(net, Net(12)), lambda: unlike(Net(12), net),
                           lambda: may_change(net, 0)):
                self.fails(TooMany, SIXTY, action)
            # Only the first gates count here.
            self.same([len(map_behind(net, place)[2]) for place in (12, 11, 10)], [60, 60, 12])

    def test_more_lots_only_with_exchanged_gates(self):
        net = Net(12, TO_SIXTY + [("high", 0, 1), ("copy", 2, 3), ("low", 2, 0)])
        self.same([len(map_of(net)[2]), may_change(net, 11)], [2, True])
        self.fails(TooMany, SIXTY, may_change, net, 12)

    def test_more_lots_only_with_the_gate_that_rises(self):
        net = Net(12, TO_SIXTY + [("high", 0, 3), ("low", 2, 0)])
        self.same(len(map_of(net)[2]), 56)
        self.same(rise(net, 13, 0), [(1, 1)] + [(0, 0)] * 11)
        self.fails(TooMany, SIXTY, rise, net, 11, 0)
        self.fails(TooMany, SIXTY, rise, net, 12, 0)

    def test_one_gate_more(self):
        full = Net(2, [("low", 0, 1)] * 400)
        self.same(rise(full.without(0), 399, 0), [(1, 1), (0, 0)])
        self.fails(TooMany, {"what": "gates", "limit": 400}, rise, full, 400, 0)
        self.same([map_of(full), may_change(full, 398)], [map_of(Net(2, [("low", 0, 1)])), True])
        # Of a net of 400 gates, one lane of which has too many lots, too, the gates are told.
        over = Net(12, TO_MORE + [("add", 0, 0)] * (400 - len(TO_MORE)))
        self.fails(TooMany, {"what": "gates", "limit": 400}, rise, over, 0, 0)
        self.fails(InvalidLane, {"value": 12}, rise, over, 0, 12)
        self.fails(TooMany, SIXTY, rise, over.without(399), 0, 0)


class Hung(Case):
    def test_drawn_nets(self):
        for net, draw in drawn_nets(60, 5, 10):
            chart = map_of(net)
            for lane in range(net.lanes):
                hung = lanes_hung(net, lane)
                self.same(hung, chart[lane].hung())
                for other in range(net.lanes):
                    told = shown(net, lane, other)
                    self.same(told is None, other not in hung)
                    if told is not None:
                        self.looks(net, lane, other, told)
                    else:
                        content = draw.content(net.lanes, 5)
                        changed = [number + 9 if own == other else number for own, number in enumerate(content)]
                        self.same(net(content)[lane], net(changed)[lane])

    def looks(self, net, lane, other, told):
        """Both contents are just those that the document tells, and show it by a run."""
        lots = told_lots(net)[lane]
        lot = [own for own in lots if other in dict(own)][0]
        far = max(1, 1 - min(number for own in lots for _, number in own))
        corner = [-dict(lot).get(own, -far) for own in range(net.lanes)]
        self.same(told, (corner, [number + (own == other) for own, number in enumerate(corner)]))
        self.same([oracle.told(net.gates(), content)[lane] for content in told], [0, 1])

    def test_wrong_lanes(self):
        two = Net(2, [("low", 0, 1)])
        for value in NOT_LANES_OF_TWO:
            self.fails(InvalidLane, {"value": value}, lanes_hung, two, value)
            self.fails(InvalidLane, {"value": value}, shown, two, value, None)
            self.fails(InvalidLane, {"value": value}, shown, two, 1, value)
        for value in NOT_LANES_OF_TWELVE:
            self.fails(InvalidLane, {"value": value}, lanes_hung, Net(12, TO_MORE), value)
            self.fails(InvalidLane, {"value": value}, shown, Net(12, TO_MORE), value, 0)
            self.fails(InvalidLane, {"value": value}, shown, Net(12, TO_MORE), 11, value)

    def test_itself(self):
        self.same(shown(Net(1), 0, 0), ([0], [1]))
        self.same(shown(Net(2, [("copy", 0, 1)]), 0, 0), None)
        self.same(shown(Net(2, [("copy", 0, 1), ("add", 0, 7)]), 0, 1), ([1, -7], [1, -6]))
        self.same(shown(Net(3, [("low", 0, 1), ("add", 0, -7)]), 0, 0), ([7, 8, 8], [8, 8, 8]))


class Rises(Case):
    def test_drawn_nets(self):
        seen = {}
        for net, draw in drawn_nets(60, 4, 8):
            position, lane = draw.below(len(net) + 1), draw.below(net.lanes)
            told = rise(net, position, lane)
            raised = net.with_gate(position, ("add", lane, 1))
            more = [[other - one for one, other in zip(net(content), raised(content))] for content in
                    drawn_contents(draw, net.lanes) + [draw.content(net.lanes, 3) for _ in range(60)]]
            for own in range(net.lanes):
                least, greatest = min(row[own] for row in more), max(row[own] for row in more)
                self.assertTrue(told[own][0] <= least <= greatest <= told[own][1])
                seen[told[own]] = seen.get(told[own], 0) + 1
                if told[own] == (0, 1):
                    self.reaches(map_of(net)[own], map_of(raised)[own])
        self.assertEqual(sorted(seen), [(0, 0), (0, 1), (1, 1)])

    def reaches(self, one, other):
        """At corners the one with the gate is sometimes as much, sometimes 1 more."""
        lanes = 1 + max(one.hung() + other.hung())
        more = set()
        for lot in one.lots() + other.lots():
            for near in (0, 1, 30):
                content = [-dict(lot).get(lane, -near) for lane in range(lanes)]
                more.add(other(content) - one(content))
        self.assertEqual(sorted(more), [0, 1])

    def test_first_and_last_places(self):
        net = Net(3, [("low", 0, 1), ("copy", 1, 2)])
        self.same([rise(net, 0, 0), rise(net, 0, 1), rise(net, 0, 2)],
                  [[(0, 1), (0, 0), (0, 0)], [(0, 1), (0, 0), (0, 0)], [(0, 0), (1, 1), (1, 1)]])
        self.same([rise(net, 2, lane) for lane in range(3)],
                  [[(1, 1) if own == lane else (0, 0) for own in range(3)] for lane in range(3)])
        self.same(rise(Net(1), 0, 0), [(1, 1)])

    def test_wrong_places_and_lanes(self):
        for value in NOT_COUNTS + (4, HUGE):
            self.fails(InvalidPosition, {"value": value}, rise, EXAMPLE, value, None)
        for value in NOT_COUNTS + (3, HUGE):
            self.fails(InvalidLane, {"value": value}, rise, EXAMPLE, 3, value)


class Alike(Case):
    def test_drawn_nets(self):
        seen = {True: 0, False: 0}
        for net, draw in drawn_nets(120, 3, 5, least_lanes=2):
            changed = net.gates()
            if changed and draw.below(2):
                changed[draw.below(len(changed))] = draw.gate(net.lanes)
            elif draw.below(2):
                changed.insert(draw.below(len(changed) + 1), draw.gate(net.lanes))
            other = Net(net.lanes, changed)
            alike = told_lots(net) == told_lots(other)
            seen[alike] += 1
            self.same([are_alike(net, other), are_alike(other, net)], [alike, alike])
            for one, two in ((net, other), (other, net)):
                told = unlike(one, two)
                self.same(told is None, alike)
                if not alike:
                    self.looks(one, two, told)
        self.assertGreater(min(seen.values()), 20, seen)

    def looks(self, net, other, told):
        ones, others = told_lots(net), told_lots(other)
        lane = [own for own in range(net.lanes) if ones[own] != others[own]][0]
        found = None
        for had, wanted in ((ones[lane], others[lane]), (others[lane], ones[lane])):
            for lot in wanted:
                if found is None and not any(lot_oracle.is_under(own, lot) for own in had):
                    far = max(1, 1 - min(number for own in had for _, number in own))
                    found = [-dict(lot).get(own, -far) for own in range(net.lanes)]
        self.same(told, (lane, found))
        self.assertNotEqual(net(told[1])[lane], other(told[1])[lane])

    def test_the_one_above_or_the_other_one(self):
        low, high, same = Net(2, [("low", 0, 1)]), Net(2, [("high", 0, 1)]), Net(2)
        self.same([unlike(high, same), unlike(same, high), unlike(low, same), unlike(same, low)],
                  [(0, [0, 1]), (0, [0, 1]), (0, [1, 0]), (0, [1, 0])])
        # As many lanes as the nets have, not as many as the families need.
        self.same(unlike(Net(5, [("add", 0, 1)]), Net(5)), (0, [0, 1, 1, 1, 1]))
        self.same(unlike(Net(12), Net(12, [("add", 11, -HUGE)])), (11, [1] * 11 + [HUGE]))
        self.same(unlike(Net(3, [("add", 1, -9)]), Net(3)), (1, [1, 9, 1]))

    def test_shuffles_and_other_sequences(self):
        for net, draw in drawn_nets(40, 5, 8, least_lanes=2):
            for position in range(len(net) - 1):
                touch = oracle.touching(net[position], net[position + 1])
                alike = told_lots(net) == told_lots(net.exchanged(position))
                self.same(may_change(net, position), alike)
                self.assertTrue(touch or alike)
            other = draw.content(net.lanes, 5)
            order = draw.order(net.lanes)
            self.same(net.renumbered(order)(moved(other, order)), moved(net(other), order))

    def test_gates_that_touch_and_yet_may_change(self):
        for gates, wanted in (([("low", 0, 1), ("low", 0, 2)], True), ([("low", 0, 1), ("high", 0, 2)], False),
                              ([("add", 0, 1), ("add", 0, 2)], True), ([("copy", 0, 1), ("add", 0, 2)], False),
                              ([("low", 0, 1), ("copy", 2, 1)], True), ([("sort", 0, 1), ("sort", 1, 0)], False),
                              ([("sort", 0, 1), ("low", 0, 1)], False), ([("low", 0, 1), ("low", 0, 1)], True)):
            self.same(may_change(Net(3, gates), 0), wanted)

    def test_wrong_others(self):
        for value in NOT_NETS + (Net(2), Net(4), Net(12), Map.same(3), Family([((0, 0),)])):
            self.fails(InvalidOther, {"value": value}, are_alike, EXAMPLE, value)
            self.fails(InvalidOther, {"value": value}, unlike, EXAMPLE, value)
        # Ahead of too many lots.
        self.fails(InvalidOther, {"value": None}, are_alike, Net(12, TO_MORE), None)
        self.fails(InvalidOther, {"value": Net(3)}, unlike, Net(12, TO_MORE), Net(3))

    def test_wrong_places(self):
        for value in NOT_COUNTS + (2, 3, HUGE):
            self.fails(InvalidPosition, {"value": value}, may_change, EXAMPLE, value)
        for net in (Net(2), Net(2, [("low", 0, 1)])):
            self.fails(InvalidPosition, {"value": 0}, may_change, net, 0)
        self.fails(InvalidPosition, {"value": 12}, may_change, Net(12, TO_MORE), 12)
        self.fails(InvalidPosition, {"value": -1}, map_behind, Net(12, TO_MORE), -1)


class Shown(Case):
    def test_long_numbers(self):
        draw = Draw(5)
        net = Net(3, [("add", 0, HUGE), ("high", 1, 0), ("add", 1, -HUGE), ("low", 2, 1)])
        for lane in range(3):
            for other in lanes_hung(net, lane):
                one, two = shown(net, lane, other)
                self.same([net(one)[lane], net(two)[lane]], [0, 1])
        for content in drawn_contents(draw, 3):
            self.same(map_of(net)(content), net(content))

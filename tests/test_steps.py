"""lanelots.told: steps, the paper for the map of a net (point 35)."""

import copy

from lanelots.errors import TooMany
from lanelots.nets import Net
from lanelots.told import is_steps, map_behind, steps_of
from tests import lot_oracle as oracle
from tests.helpers import HUGE, NO_PAPERS, NOT_LOTS, Case, Draw, drawn_nets
from tests.test_told import AGAIN, TO_MORE, TO_SIXTY

X, Y, BOTH = ((0, 0),), ((1, 0),), ((0, 0), (1, 0))
START = [[X], [Y]]


def judged(net, value):
    """Whether steps whose form is right tell what the document wants of them."""
    if value[0] != [[((lane, 0),)] for lane in range(net.lanes)]:
        return False
    for (word, i, j), ahead, step in zip(net.gates(), value, value[1:]):
        changed = {i, j} if word == "sort" else {i}
        if any(step[lane] != ahead[lane] for lane in range(net.lanes) if lane not in changed):
            return False
        if word == "copy" and step[i] != ahead[j] or word == "add" and step[i] != oracle.raised(ahead[i], j):
            return False
        if word in ("low", "sort") and not covers(step[i], ahead[i] + ahead[j]):
            return False
        if word in ("high", "sort"):
            joins = [oracle.joined(pair, max) for pair in [(one, other) for one in ahead[i] for other in ahead[j]]]
            if not covers(step[i if word == "high" else j], joins):
                return False
    return True


def covers(lots, wanted):
    return all(lot in wanted for lot in lots) and all(any(oracle.is_under(own, lot) for own in lots) for lot in wanted)


def spoiled(steps, draw, lanes):
    """The steps with one lot more, less, otherwise, or in another place."""
    found = []
    for _ in range(12):
        changed = copy.deepcopy(steps)
        lots = draw.pick(draw.pick(changed))
        way = draw.below(5)
        if way == 0:
            lots.append(draw.lot(lanes, 2))
        elif way == 1 and len(lots) > 1:
            lots.pop(draw.below(len(lots)))
        elif way == 2:
            lots[draw.below(len(lots))] = draw.lot(lanes, 2)
        elif way == 3:
            lots.append(draw.pick(draw.pick(draw.pick(steps))))
        else:
            lots.reverse()
        found.append(changed)
    return found


class Told(Case):
    def test_example(self):
        net = Net(3, [("sort", 0, 1), ("high", 1, 2), ("add", 0, 4)])
        self.same([is_steps(net, steps_of(net)), is_steps(Net(1, [("add", 0, 3)]), [[[((0, 0),)]], [[((0, 3),)]]]),
                   is_steps(net, [])], [True, True, False])

    def test_drawn_nets(self):
        for net, draw in drawn_nets(80, 4, 9):
            steps = steps_of(net)
            self.same(is_steps(net, steps), True)
            self.assertTrue(judged(net, steps))
            self.assertEqual(len(steps), len(net) + 1)
            for position, step in enumerate(steps):
                # Behind each gate the least of the lots is what the gates tell.
                ahead = net.cut(position)[0]
                content = draw.content(net.lanes, 9)
                self.same([oracle.value(lots, content) for lots in step], ahead(content))
                self.same([oracle.family(lots) for lots in step],
                          [family.lots() for family in map_behind(net, position).families()])

    def test_no_gates_and_many(self):
        for net in (Net(1), Net(12), Net(1, [("add", 0, HUGE)] * 400), Net(2, [("sort", 0, 1), ("sort", 1, 0)] * 200),
                    Net(12, [("copy", 11, 0), ("low", 0, 11)] * 200), Net(12, TO_SIXTY)):
            self.same(is_steps(net, steps_of(net)), True)

    def test_sizes_that_are_let(self):
        for net in (Net(12, TO_SIXTY), Net(12, [("sort", lane, (lane + 1) % 12) for lane in range(12)] * 3)):
            steps = steps_of(net)
            self.assertTrue(all(len(lots) <= 4000 for step in steps for lots in step))

    def test_too_many_lots(self):
        for gates in (TO_MORE, AGAIN):
            self.fails(TooMany, {"what": "lots", "limit": 60}, steps_of, Net(12, gates))

    def test_judged_without_a_limit(self):
        # What is under others need not go, and 61 lots and more are judged, too.
        net = Net(12, AGAIN)
        steps = [list(map(list, step)) for step in steps_of(Net(12, TO_SIXTY))]
        steps.append([[((0, 0), (1, 0))] if lane == 0 else lots for lane, lots in enumerate(steps[-1])])
        steps.append([lots + steps[-1][0] if lane == 2 else lots for lane, lots in enumerate(steps[-1])])
        self.same(len(steps[-1][2]), 61)
        steps.append([steps[-1][3] if lane == 2 else lots for lane, lots in enumerate(steps[-1])])
        self.same(is_steps(net, steps), True)
        self.same(is_steps(Net(12, TO_MORE), steps[:-1]), True)
        self.same(is_steps(Net(12, TO_MORE), steps), False)


class Judged(Case):
    def test_lots_that_are_not_needed(self):
        low, high = Net(2, [("high", 1, 0), ("low", 0, 1)]), Net(2, [("low", 1, 0), ("high", 0, 1)])
        ahead = [START, [[X], [BOTH]]]
        for lots, wanted in (([X], True), ([X, BOTH], True), ([BOTH, X], True), ([X, X], True), ([BOTH], False),
                             ([X, Y], False), ([Y], False), ([X, ((0, 1),)], False)):
            self.same(is_steps(low, ahead + [[lots, [BOTH]]]), wanted)
        ahead = [START, [[X], [X, Y]]]
        for lots, wanted in (([X], True), ([X, BOTH], True), ([BOTH], False), ([X, Y], False), ([BOTH, X, BOTH], True)):
            self.same(is_steps(high, ahead + [[lots, [X, Y]]]), wanted)
        # In another sequence, and several times.
        self.same(is_steps(high, [START, [[X], [Y, X, X]], [[X], [Y, X, X]]]), True)
        self.same(is_steps(high, [START, [[X], [Y, X, X]], [[X], [X, Y, X]]]), False)

    def test_copy_and_add_keep_the_sequence(self):
        for gate, ahead, behind, wanted in (
            (("copy", 2, 0), [Y, X], [Y, X], True), (("copy", 2, 0), [Y, X], [X, Y], False),
            (("copy", 2, 0), [Y, X], [Y], False), (("copy", 2, 0), [Y, X, X], [Y, X], False),
        ):
            net = Net(3, [("low", 0, 1), gate])
            first = [[ahead, [Y], [((2, 0),)]]]
            self.same(is_steps(net, [START + [[((2, 0),)]]] + first + [[ahead, [Y], behind]]), wanted)
        net = Net(2, [("low", 0, 1), ("add", 0, -4)])
        for lots, wanted in (([((1, -4),), ((0, -4),)], True), ([((0, -4),), ((1, -4),)], False), ([((1, -4),)], False),
                             ([((1, 4),), ((0, 4),)], False), ([Y, X], False)):
            self.same(is_steps(net, [START, [[Y, X], [Y]], [lots, [Y]]]), wanted)

    def test_each_kind_of_gate(self):
        for gate, step in (
            (("low", 0, 1), [[X, Y], [Y]]), (("high", 0, 1), [[BOTH], [Y]]), (("sort", 0, 1), [[X, Y], [BOTH]]),
            (("sort", 1, 0), [[BOTH], [X, Y]]), (("copy", 0, 1), [[Y], [Y]]), (("add", 0, 3), [[((0, 3),)], [Y]]),
            (("copy", 1, 0), [[X], [X]]), (("add", 1, -1), [[X], [((1, -1),)]]), (("low", 1, 0), [[X], [Y, X]]),
        ):
            net = Net(2, [gate])
            self.same(is_steps(net, [START, step]), True)
            others = [[[X], [Y]], [[Y], [X]], [[BOTH], [BOTH]], [[X, Y], [X]], [[X], [X, Y]], [[Y, X], [Y]],
                      [[X, Y], [BOTH]], [[BOTH], [Y, X]], [[BOTH], [Y]], [[X], [BOTH]], [[Y], [Y]], [[X], [X]]]
            for other in others:
                self.same(is_steps(net, [START, other]), judged(net, [START, other]))

    def test_first_step(self):
        for step, wanted in ((START, True), ([[Y], [X]], False), ([[X, X], [Y]], False), ([[X, BOTH], [Y]], False),
                             ([[((0, 1),)], [Y]], False), ([[X]], False), ([[X], [Y], [((2, 0),)]], False),
                             ([[((0, False),)], [Y]], False), ([[((False, 0),)], [Y]], False)):
            self.same(is_steps(Net(2), [step]), wanted)
        self.same([is_steps(Net(2), value) for value in ([], [START, START], START)], [False] * 3)

    def test_tuples_for_lists_and_lists_for_tuples(self):
        net = Net(2, [("low", 0, 1)])
        step = [[X, Y], [Y]]
        for value, wanted in (
            ((START, step), True), ([tuple(START), tuple(step)], True), ([START, ((X, Y), (Y,))], True),
            ([START, [[list(X), Y], [Y]]], False), ([START, [[([0, 0],), Y], [Y]]], False),
            ([START, [[X, Y], Y]], False), ([START, [[X, Y]]], False), ([START, [[X, Y], []]], False),
            ([START, [[X, Y], [Y], [Y]]], False), ([START, {0: [X, Y], 1: [Y]}], False), ({0: START, 1: step}, False),
            ([START, [[X, ((2, 0),), Y], [Y]]], False), ([START, [[X, ((1, False),)], [Y]]], False),
            ([START, [[X, ((True, 0),)], [Y]]], False), ([START, [[X, Y, None], [Y]]], False), ([START, None], False),
            ([START, [{X: 0, Y: 1}, [Y]]], False), ([START, step, step], False), ([START], False),
        ):
            self.same(is_steps(net, value), wanted)

    def test_any_value(self):
        net = Net(2, [("low", 0, 1)])
        for value in NO_PAPERS + NOT_LOTS:
            self.same(is_steps(net, value), False)
            self.same(is_steps(net, [START, value]), False)
            self.same(is_steps(net, [value, [[X, Y], [Y]]]), False)
            self.same(is_steps(net, [START, [[X, Y], value]]), False)
            self.same(is_steps(net, [START, [[X, Y, value], [Y]]]), repr(value) == repr(X))

    def test_one_part_otherwise_in_drawn_ones(self):
        seen = {True: 0, False: 0}
        for net, draw in drawn_nets(150, 3, 5, least_lanes=2):
            steps = steps_of(net)
            for value in spoiled(steps, draw, net.lanes):
                wanted = judged(net, value)
                seen[wanted] += 1
                self.same(is_steps(net, value), wanted)
            self.same(is_steps(net, steps), True)
            self.same([is_steps(net, steps[:-1]), is_steps(net, steps + steps[-1:])], [False, False])
        self.assertGreater(min(seen.values()), 100, seen)

    def test_of_another_net(self):
        for net, draw in drawn_nets(60, 3, 5, least_lanes=2):
            if len(net) == 0:
                continue
            other = net.without(0).with_gate(0, Draw(len(net)).gate(net.lanes))
            self.same(is_steps(other, steps_of(net)), judged(other, steps_of(net)))
            self.same(is_steps(net.wider(4), steps_of(net)), net.lanes == 4)

"""Point 2 for all that stands: names of parameters, repeated calls, lists that are changed afterwards, kinds."""

import copy
import inspect

from lanelots import basics, runs
from lanelots.nets import Net
from tests.helpers import Case

NET = Net(3, [("low", 0, 1), ("sort", 1, 2), ("add", 0, 2)])
OTHER = Net(3, [("low", 0, 1), ("add", 0, 2), ("sort", 1, 2)])

# For each function and method, by the names of the interface: the parameters in sequence, and what is told.
FUNCTIONS = (
    (basics.is_integer, {"value": 1}, True),
    (basics.is_count, {"value": -1}, False),
    (basics.is_content, {"value": [1, 2]}, True),
    (basics.is_row, {"value": [None, 2]}, True),
    (basics.spread, {"content": [5, 3, 9]}, 6),
    (basics.farthest, {"content": [5, 3, 9], "other": [5, 4, 7]}, 2),
    (basics.is_at_most, {"content": [5, 3, 7], "other": [5, 4, 7]}, True),
    (basics.raised, {"content": [5, 3, 9], "number": -1}, [4, 2, 8]),
    (basics.turned, {"content": [5, 3, 9]}, [-5, -3, -9]),
    (basics.moved, {"content": [5, 3, 9], "order": [2, 0, 1]}, [3, 9, 5]),
    (Net, {"lanes": 2, "gates": [("low", 0, 1)]}, Net.of(2, ("low", 0, 1))),
    (NET, {"content": [5, 3, 1]}, [5, 1, 3]),
    (NET.gates, {}, [("low", 0, 1), ("sort", 1, 2), ("add", 0, 2)]),
    (NET.beside, {"other": Net(1)}, Net(4, NET.gates())),
    (NET.renumbered, {"order": [1, 0, 2]}, Net(3, [("low", 1, 0), ("sort", 0, 2), ("add", 1, 2)])),
    (NET.wider, {"lanes": 4}, Net(4, NET.gates())),
    (NET.with_gate, {"position": 0, "gate": ("add", 2, 1)}, Net(3, [("add", 2, 1)] + NET.gates())),
    (NET.without, {"position": 0}, Net(3, NET.gates()[1:])),
    (NET.cut, {"position": 1}, (Net(3, NET.gates()[:1]), Net(3, NET.gates()[1:]))),
    (NET.exchanged, {"position": 1}, OTHER),
    (runs.contents, {"net": NET, "content": [5, 3, 1]}, [[5, 3, 1], [3, 3, 1], [3, 1, 3], [5, 1, 3]]),
    (runs.origins, {"net": NET, "content": [5, 3, 1]}, [(1, 2), (2, 0), (1, 0)]),
    (runs.rounds, {"net": NET, "content": [5, 3, 1], "many": 2}, [3, 1, 3]),
    (runs.passed, {"net": NET, "content": [5, 3, 1], "many": 2}, [[5, 3, 1], [5, 1, 3], [3, 1, 3]]),
    (runs.list_of, {"net": NET, "lane": 0}, [("low", 0, 1), ("add", 0, 2)]),
    (runs.layers, {"net": NET}, [[0], [1, 2]]),
    (runs.by_layers, {"net": NET}, NET),
    (runs.cone, {"net": NET, "lane": 0}, [0, 2]),
    (runs.cone_net, {"net": NET, "lane": 0}, Net(3, [("low", 0, 1), ("add", 0, 2)])),
    (runs.looked_at, {"net": NET, "lane": 0}, [0, 1]),
    (runs.is_shuffle, {"net": NET, "other": OTHER}, True),
    (runs.first_shuffle, {"net": NET}, OTHER),
    (runs.exchanges, {"net": NET, "other": OTHER}, [1]),
    (runs.are_exchanges, {"net": NET, "other": OTHER, "value": [1]}, True),
    (runs.unlike_lane, {"net": NET, "other": Net(3, NET.gates()[:2])}, 0),
    (runs.is_unlike_lane, {"net": NET, "other": Net(3, NET.gates()[:2]), "value": 1}, False),
)


def spoil(told):
    """Changes all lists in what was told, however deep."""
    if isinstance(told, (list, tuple)):
        for inner in told:
            spoil(inner)
    if isinstance(told, list):
        told.append("spoiled")


class Calls(Case):
    def test_by_name_by_position_and_again(self):
        for action, named, wanted in FUNCTIONS:
            self.same(action(**named), wanted)
            self.same(action(*named.values()), wanted)
            self.same(action(**dict(reversed(named.items()))), wanted)

    def test_parameters_are_just_those_of_the_interface(self):
        for action, named, _ in FUNCTIONS:
            self.assertEqual(list(inspect.signature(action).parameters), list(named), action)
        self.assertEqual(list(inspect.signature(Net.of).parameters), ["lanes", "gates"])

    def test_arguments_stay_as_they_are(self):
        for action, named, _ in FUNCTIONS:
            passed = copy.deepcopy(named)
            action(**passed)
            self.same(passed, named)

    def test_tuples_in_the_place_of_lists(self):
        for action, named, wanted in FUNCTIONS:
            self.same(action(*[tuple(part) if isinstance(part, list) else part for part in named.values()]), wanted)

    def test_what_was_told_is_new(self):
        for action, named, wanted in FUNCTIONS:
            passed = copy.deepcopy(named)
            spoil(action(**passed))
            self.same(passed, named)
            self.same(action(**passed), wanted)

    def test_what_was_passed_was_copied(self):
        gates = [("low", 0, 1), ("add", 0, 2)]
        net = Net(2, gates)
        gates[0] = None
        gates.append(("add", 1, 1))
        self.same(net, Net(2, [("low", 0, 1), ("add", 0, 2)]))
        content = [4, 4]
        told = [Net(2)(content), runs.contents(Net(2), content)[0], runs.rounds(Net(2), content, 0),
                runs.passed(Net(2), content, 0)[0], basics.raised(content, 0), basics.moved(content, [0, 1])]
        content[0] = 9
        self.same(told, [[4, 4]] * 6)

    def test_gates_are_plain_tuples(self):
        class Gate(tuple):
            pass

        net = Net(2, [Gate(("low", 0, 1))]).with_gate(1, Gate(("add", 0, 1)))
        self.assertEqual([type(gate) for gate in net.gates()], [tuple, tuple])


class Interface(Case):
    def test_defined_where_it_is_listed(self):
        for action, _, _ in FUNCTIONS:
            if inspect.isfunction(action):
                self.assertIn(action.__module__, ("lanelots.basics", "lanelots.runs"))
        self.assertEqual(Net.__module__, "lanelots.nets")

    def test_methods_stand_in_the_class_itself(self):
        for name in ("of", "lanes", "is_plain", "gates", "beside", "renumbered", "wider", "with_gate", "without", "cut",
                     "exchanged", "__init__", "__len__", "__getitem__", "__call__", "__add__", "__mul__", "__neg__",
                     "__eq__", "__repr__", "MOST_LANES", "MOST_GATES"):
            self.assertIn(name, vars(Net))
        self.assertIsInstance(vars(Net)["lanes"], property)
        self.assertIsInstance(vars(Net)["is_plain"], property)
        self.assertIsInstance(vars(Net)["of"], classmethod)

    def test_net_alone_takes_no_gates(self):
        self.same(Net(lanes=4), Net(4, []))

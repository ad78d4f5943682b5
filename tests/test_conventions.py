"""Point 2 for all that stands: names of parameters, repeated calls, what is changed afterwards, kinds."""

import copy
import importlib
import inspect

from lanelots import basics, runs
from lanelots.cofamilies import is_lane_pair, is_saddle, is_tree, saddle, unders
from lanelots.errors import LaneError
from lanelots.families import CoFamily, Family
from lanelots.maps import Map
from lanelots.nets import Net
from lanelots.spans import Spans
from tests import calls, claim_calls, later_calls, pace_calls
from tests.calls import CHART, CO_FAMILY, FAMILY, LOT, NET, OTHER, WIDE
from tests.helpers import Case, spoil
from tests.later_calls import HELD

FUNCTIONS = calls.FUNCTIONS + later_calls.FUNCTIONS + pace_calls.FUNCTIONS + claim_calls.FUNCTIONS

LISTED = {
    "lanelots.basics": ("is_integer", "is_count", "is_content", "is_row", "spread", "farthest", "is_at_most", "raised",
                        "turned", "moved"),
    "lanelots.nets": ("Net",),
    "lanelots.runs": ("contents", "origins", "rounds", "passed", "list_of", "layers", "by_layers", "cone", "cone_net",
                      "looked_at", "is_shuffle", "first_shuffle", "exchanges", "are_exchanges", "unlike_lane",
                      "is_unlike_lane"),
    "lanelots.lots": ("is_lot", "lot_value", "co_value", "is_under", "is_over", "least_lots", "over_lots"),
    "lanelots.families": ("Family", "CoFamily", "lies_below"),
    "lanelots.cofamilies": ("unders", "is_unders", "parting", "is_parting", "lane_pair", "is_lane_pair", "saddle",
                            "is_saddle", "below", "is_below", "needed", "is_needed", "tree", "is_tree", "above"),
    "lanelots.maps": ("Map", "fed"),
    "lanelots.told": ("map_of", "map_behind", "lanes_hung", "shown", "rise", "are_alike", "unlike", "may_change",
                      "steps_of", "is_steps"),
    "lanelots.back": ("price", "net_of", "is_net_of"),
    "lanelots.spans": ("Spans", "within", "sum_of", "is_ring", "ring", "fitting", "way", "needless", "lean", "summit",
                       "lifted"),
    "lanelots.gaps": ("value_at", "corner", "gap", "at_most", "above", "endless", "is_at_most", "is_above",
                      "is_endless",
                      "behind", "leads", "slip", "is_slip", "keeps", "alike_where", "unlike_where", "is_unlike_where"),
    "lanelots.heads": ("at_ceiling", "at_floor", "heads", "feet", "is_head", "is_foot", "ladder", "is_ladder",
                       "heads_back"),
    "lanelots.sources": ("source", "is_source", "boxes", "how_many", "nowhere", "is_nowhere", "fitting_source"),
    "lanelots.tables": ("flags_at", "led", "least_flags", "greatest_flags", "table_of", "is_table", "map_by"),
    "lanelots.plainrounds": ("comes", "comes_of", "settles", "settled", "map_behind", "content_behind", "laps", "ranks",
                             "is_lap", "is_settling", "stands", "standing", "risen", "fallen", "holders", "held",
                             "holding", "alike_from", "parting_round"),
    "lanelots.pace": ("is_rate", "pace", "paces", "by_pace", "is_at_most", "is_at_least", "plan_paper", "answer_paper",
                      "is_plan_paper", "is_answer_paper", "most_behind", "least_behind"),
    "lanelots.plans": ("plan_map", "answer_map", "best_plan", "best_answer", "is_best_plan", "is_best_answer", "rings",
                       "steepest"),
    "lanelots.walks": ("is_walk", "walk_of", "step_of", "walked_to", "plan_from", "answer_from", "far_from"),
    "lanelots.even": ("is_even", "even_of", "is_uneven", "uneven_of", "moved_by", "lap_of", "least_above",
                      "greatest_below"),
    "lanelots.texts": ("written",),
    "lanelots.readers": ("read",),
    "lanelots.claims": ("is_claim", "is_true", "contrary", "paper_of", "is_paper", "things_at"),
    "lanelots.commands": ("words_of", "is_change"),
    "lanelots.bench": ("Bench", "tried"),
}
OF_FAMILIES = ("lots", "hung", "__init__", "__call__", "__and__", "__or__", "__add__", "__neg__", "__invert__",
               "__len__",
               "__contains__", "__eq__", "__repr__")
METHODS = {
    Net: ("of", "lanes", "is_plain", "gates", "beside", "renumbered", "wider", "with_gate", "without", "cut",
          "exchanged",
          "__init__", "__len__", "__getitem__", "__call__", "__add__", "__mul__", "__neg__", "__eq__", "__repr__",
          "MOST_LANES", "MOST_GATES"),
    Family: OF_FAMILIES,
    CoFamily: OF_FAMILIES,
    Map: ("same", "lanes", "is_plain", "families", "beside", "renumbered", "with_family", "__init__", "__getitem__",
          "__call__", "__add__", "__mul__", "__neg__", "__eq__", "__repr__"),
    Spans: ("lanes", "differences", "number", "closed", "ball", "__init__", "__len__", "__contains__", "__and__",
            "__neg__", "__eq__", "__repr__"),
}
# Each operator, at objects that must be the same behind it.
OPERATIONS = (
    (lambda one, two: one + two, NET, OTHER), (lambda one, two: one * two, NET, 2), (lambda one, _: -one, NET, None),
    (lambda one, two: one & two, FAMILY, Family([LOT])), (lambda one, two: one | two, FAMILY, Family([LOT])),
    (lambda one, two: one + two, FAMILY, 3), (lambda one, _: -one, FAMILY, None), (lambda one, _: ~one, FAMILY, None),
    (lambda one, two: one & two, CO_FAMILY, CoFamily([LOT])), (lambda one, two: one | two, CO_FAMILY, CoFamily([LOT])),
    (lambda one, two: one + two, CO_FAMILY, 3), (lambda one, _: -one, CO_FAMILY, None),
    (lambda one, _: ~one, CO_FAMILY, None),
    (lambda one, two: two in one, FAMILY, WIDE), (lambda one, _: len(one), FAMILY, None),
    (lambda one, two: one + two, CHART, CHART), (lambda one, two: one * two, CHART, 3),
    (lambda one, _: -one, CHART, None),
    (lambda one, two: one[two], CHART, 0), (lambda one, two: one == two, CHART, -CHART),
    (lambda one, two: one & two, HELD, Spans(3, [(2, 0, 1)])), (lambda one, _: -one, HELD, None),
    (lambda one, two: one == two, HELD, HELD.closed()), (lambda one, two: two in one, HELD, [2, 0, 1]),
    (lambda one, _: len(one), HELD, None),
)


def turned_dicts(value):
    """The value with the keys of all dicts in it in the other sequence."""
    if isinstance(value, dict):
        return {key: turned_dicts(value[key]) for key in reversed(value)}
    return tuple(turned_dicts(part) for part in value) if isinstance(value, tuple) else value


class Calls(Case):
    def test_by_name_by_position_and_again(self):
        for action, named, wanted in FUNCTIONS:
            self.same(action(**named), wanted)
            self.same(action(*named.values()), wanted)
            self.same(action(**dict(reversed(named.items()))), wanted)

    def test_parameters_are_just_those_of_the_interface(self):
        for action, named, _ in FUNCTIONS:
            self.assertEqual(list(inspect.signature(action).parameters), list(named), action)
        self.assertEqual(list(inspect.signature(Net.of).parameters), ["lanes", "gates"])

    def test_all_functions_are_called(self):
        called = {(action.__module__, action.__qualname__) for action, _, _ in FUNCTIONS
                  if inspect.isfunction(action) or inspect.isclass(action)}
        listed = {(file, name) for file, names in LISTED.items() for name in names if file != "lanelots.bench"}
        self.assertEqual(called, listed | {("lanelots.spans", "Spans.ball")})

    def test_arguments_stay_as_they_are(self):
        for action, named, _ in FUNCTIONS:
            passed = copy.deepcopy(named)
            action(**passed)
            self.same(passed, named)

    def test_tuples_in_the_place_of_lists(self):
        for action, named, wanted in FUNCTIONS:
            self.same(action(*[tuple(part) if isinstance(part, list) else part for part in named.values()]), wanted)

    def test_what_was_told_is_new(self):
        for action, named, wanted in FUNCTIONS:
            passed = copy.deepcopy(named)
            spoil(action(**passed))
            self.same(passed, named)
            self.same(action(**passed), wanted)

    def test_what_was_passed_was_copied(self):
        gates = [("low", 0, 1), ("add", 0, 2)]
        net = Net(2, gates)
        gates[0] = None
        gates.append(("add", 1, 1))
        self.same(net, Net(2, [("low", 0, 1), ("add", 0, 2)]))
        content = [4, 4]
        told = [Net(2)(content), runs.contents(Net(2), content)[0], runs.rounds(Net(2), content, 0),
                runs.passed(Net(2), content, 0)[0], basics.raised(content, 0), basics.moved(content, [0, 1])]
        content[0] = 9
        self.same(told, [[4, 4]] * 6)

    def test_lots_and_families_were_copied(self):
        for kind in (Family, CoFamily):
            lots = [WIDE, LOT[:1]]
            made = kind(lots[:1])
            passed = kind(lots)
            lots[0] = None
            lots.append(LOT)
            self.same([made.lots(), passed], [[WIDE], kind([WIDE, LOT])])
            made.lots().append(LOT)
            made.hung().append(7)
            self.same([made.lots(), made.hung()], [[WIDE], [0, 2]])
        families = [Family([LOT]), Family([LOT])]
        chart = Map(families)
        families[0] = None
        families.append(FAMILY)
        chart.families().append(FAMILY)
        self.same(chart, Map([Family([LOT]), Family([LOT])]))

    def test_what_raises_an_error_changes_nothing(self):
        odd, seen = {"odd": [1, (2, [3])]}, 0
        for action, named, _ in FUNCTIONS:
            for name in set(named) & {"content", "row", "lane", "number", "many", "position", "low", "high", "order",
                                      "flags", "table", "lanes", "differences", "lots", "families", "gates", "lot",
                                      "rate", "paper", "plan", "answer", "walk", "claim", "command", "word", "thing",
                                      "text"}:
                passed = copy.deepcopy({**named, name: odd})
                self.assertRaises(LaneError, action, **passed)
                self.same(passed, {**named, name: odd})
                seen += 1
        self.assertGreater(seen, 118)

    def test_operators_change_nothing(self):
        for action, one, two in OPERATIONS:
            ahead = repr((one, two))
            told = action(one, two)
            self.same(action(one, two), told)
            self.assertEqual(repr((one, two)), ahead)

    def test_keys_of_told_dicts_are_sorted(self):
        middle = Family([((0, 0), (1, 0)), ((0, 0), (2, 0)), ((1, 0), (2, 0))])
        for told in (unders(middle, middle + 1), saddle(middle, [3, 2, 1])[2], *[
                action(**named) for action, named, _ in FUNCTIONS if isinstance(action(**named), dict)]):
            self.assertEqual(list(told), sorted(told))

    def test_keys_of_passed_dicts_in_any_sequence(self):
        for action, named, wanted in FUNCTIONS:
            self.same(action(**{name: turned_dicts(value) for name, value in named.items()}), wanted)

    def test_tuples_within_papers(self):
        one = Family([((0, 0),)])
        self.same(is_lane_pair(one, 0, ((0,), [1])), True)
        self.same(is_lane_pair(one, 0, ((0, 5), (1, 5))), True)
        # Where the text says tuple, only a tuple is one.
        self.same(is_lane_pair(one, 0, [[0], [1]]), False)
        self.same(is_saddle(one, (0,), [0, ((0, 0),), {((0, 0),): 0}]), False)
        self.same(is_tree(one, ~one, ["ask", ((0, 0),), {0: ("end", ((0, 0),))}]), False)

    def test_gates_are_plain_tuples(self):
        class Gate(tuple):
            pass

        net = Net(2, [Gate(("low", 0, 1))]).with_gate(1, Gate(("add", 0, 1)))
        self.assertEqual([type(gate) for gate in net.gates()], [tuple, tuple])


class Interface(Case):
    def test_defined_where_it_is_listed(self):
        for file, names in LISTED.items():
            for name in names:
                self.assertEqual(getattr(importlib.import_module(file), name).__module__, file)

    def test_methods_stand_in_the_class_itself(self):
        for kind, names in METHODS.items():
            for name in names:
                self.assertIn(name, vars(kind))
        for kind in (Net, Map):
            self.assertIsInstance(vars(kind)["lanes"], property)
            self.assertIsInstance(vars(kind)["is_plain"], property)
        self.assertIsInstance(vars(Spans)["lanes"], property)
        self.assertIsInstance(vars(Spans)["ball"], staticmethod)
        self.assertIsInstance(vars(Net)["of"], classmethod)
        self.assertIsInstance(vars(Map)["same"], classmethod)

    def test_net_alone_takes_no_gates(self):
        self.same(Net(lanes=4), Net(4, []))

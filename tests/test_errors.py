"""The errors: their classes, bases, parameters and attributes."""

from lanelots import errors
from tests.helpers import Case

VALUE_ERRORS = (
    "InvalidContent", "InvalidRow", "InvalidLane", "InvalidNumber", "InvalidMany", "InvalidLanes", "InvalidGate",
    "InvalidPosition", "InvalidOrder", "InvalidOther", "InvalidLot", "InvalidFamily", "InvalidFlags", "InvalidTable",
    "InvalidRate", "InvalidPaper", "InvalidPlan", "InvalidAnswer", "InvalidWalk", "InvalidThing", "InvalidClaim",
    "InvalidName", "InvalidCommand",
)
POSITION_ERRORS = ("InvalidGates", "InvalidLots", "InvalidFamilies", "InvalidDifferences", "InvalidParts")

LISTED = {
    "LaneError": dict(
        [(name, ("value",)) for name in VALUE_ERRORS] + [(name, ("position",)) for name in POSITION_ERRORS],
        InvalidText=("line",),
    ),
    "MissingError": {"LackingLane": ("lane",), "UnknownName": ("value",)},
    "StateError": {
        "OtherLanes": ("one", "other"), "NothingFits": (), "NotPlain": ("lane",), "NotRising": ("lane",),
        "NotFalling": ("lane",), "NotOneLot": ("lane",), "Uneven": (), "TakenName": ("value",), "WrongThing": ("value",),
        "Lost": ("name",), "NothingToUndo": (), "NothingToRedo": (), "CommandFailed": ("position",),
    },
    "LimitError": {"TooMany": ("what", "limit")},
}
FIRST_BASES = {"LaneError": ValueError, "MissingError": LookupError, "StateError": RuntimeError,
               "LimitError": ArithmeticError}
ANY_VALUES = (0, -7, 10 ** 30, True, None, "", "word", b"b", (), (1, [2]), [], [1, (2, None)], {}, {(0, 1): [2]},
              object(), ValueError("inner"))


class Errors(Case):
    def every(self):
        for base, listed in LISTED.items():
            for name, attributes in listed.items():
                yield getattr(errors, base), getattr(errors, name), attributes

    def test_the_list_is_whole(self):
        self.assertEqual([len(listed) for listed in LISTED.values()], [29, 2, 13, 1])

    def test_first_bases(self):
        for name, base in FIRST_BASES.items():
            self.assertEqual(getattr(errors, name).__bases__, (base,))

    def test_direct_subclasses_of_one_class(self):
        for base, kind, _ in self.every():
            self.assertEqual(kind.__bases__, (base,), kind)
            self.assertEqual(kind.__module__, "lanelots.errors")

    def test_attributes_by_position_and_by_name(self):
        for _, kind, attributes in self.every():
            values = [f"of {name}" for name in attributes]
            named = dict(zip(attributes, values))
            self.assertEqual(vars(kind(*values)), named)
            self.assertEqual(vars(kind(**named)), named)

    def test_made_with_any_values(self):
        for _, kind, attributes in self.every():
            for value in ANY_VALUES:
                error = kind(*[value for _ in attributes])
                for name in attributes:
                    self.assertIs(getattr(error, name), value)

    def test_constructors_take_just_their_parameters(self):
        for _, kind, attributes in self.every():
            if attributes:
                self.assertRaises(TypeError, kind)
                self.assertRaises(TypeError, kind, *range(len(attributes) + 1))

    def test_caught_by_all_their_bases(self):
        for base, kind, attributes in self.every():
            for caught in (kind, base, base.__bases__[0]):
                with self.assertRaises(caught):
                    raise kind(*attributes)

    def test_each_sort_is_apart_from_the_others(self):
        for base, kind, _ in self.every():
            others = [getattr(errors, name) for name in LISTED if name != base.__name__]
            self.assertFalse([other for other in others if issubclass(kind, other)])

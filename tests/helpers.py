"""What the tests share: drawing by a fixed rule, wrong values, and what an error must look like."""

import unittest

from lanelots.families import CoFamily, Family
from lanelots.maps import Map
from lanelots.nets import Net

WORDS = ("low", "high", "sort", "copy", "add")
HUGE = 10 ** 30 - 1

NOT_INTEGERS = (True, False, None, "", "1", b"1", (), (1,), [], [1], {}, {0: 1}, Net(1))
NOT_COUNTS = NOT_INTEGERS + (-1, -2, -HUGE)
NOT_LISTS = (None, True, False, 0, 1, "", "ab", b"ab", {}, {0: 1}, Net(2))
NOT_NETS = (None, True, 1, "net", [], (), ("low", 0, 1), [("low", 0, 1)], {})

NOT_CONTENTS_OF_TWO = NOT_LISTS + (
    [], (), [1], (1,), [1, 2, 3], (1, 2, 3), [True, 0], [0, False], [None, 1], (1, None), ["1", 2], [[1], 2],
    [(1,), (2,)], list(range(13)),
)
NOT_ROWS_OF_TWO = NOT_LISTS + (
    [], (), [1], (None,), [1, 2, 3], (None, None, None), [True, 0], [None, False], ["1", None], [[None], 2],
    [(1,), None], [None] * 13,
)
NOT_LANES_OF_TWO = NOT_COUNTS + (2, 11, 12, HUGE)
NOT_LANES_OF_TWELVE = NOT_COUNTS + (12, 13, HUGE)
NOT_FLAGS_OF_TWO = NOT_LISTS + (
    [], (), [0, 1], (0,), (0, 1, 0), (0, 2), (-1, 0), (True, 0), (0, False), (None, 1), ("0", "1"), ((0,), 1), ([0], 1),
    "01", (0, HUGE),
)
NOT_ORDERS_OF_TWO = NOT_LISTS + (
    [], (0,), [0], [0, 0], [1, 1], [1, 2], (0, 2), [-1, 0], [0, 1, 2], [0, 1, 1], [False, True], [0, True], [0, None],
    ["0", "1"], [0, [1]], [(0,), (1,)],
)
NOT_GATES_OF_TWO = (
    None, True, 0, "low", "", (), [], {}, Net(2), ["low", 0, 1], ["add", 0, 1],
    ("low",), ("low", 0), ("low", 0, 1, 0), ("add", 0), ("add", 0, 1, 1),
    ("least", 0, 1), ("Low", 0, 1), ("", 0, 1), (None, 0, 1), (0, 0, 1), (("low",), 0, 1), (["low"], 0, 1),
    (b"low", 0, 1),
    ("low", 0, 0), ("high", 1, 1), ("sort", 1, 1), ("copy", 0, 0),
    ("low", 0, 2), ("high", 2, 0), ("sort", 0, -1), ("copy", -1, 0), ("add", 2, 0), ("add", -1, 0),
    ("low", False, True), ("low", 0, True), ("sort", False, 1), ("add", True, 1), ("add", 0, True), ("add", 0, False),
    ("low", None, 1), ("high", 0, None), ("sort", "0", "1"), ("copy", (0,), 1), ("copy", 0, [1]),
    ("add", 0, None), ("add", 0, "1"), ("add", 0, (1,)), ("add", None, 1), ("add", [0], 1), ("add", 0, [1]),
)
GATES_OF_TWO = (
    ("low", 0, 1), ("low", 1, 0), ("high", 0, 1), ("high", 1, 0), ("sort", 0, 1), ("sort", 1, 0), ("copy", 0, 1),
    ("copy", 1, 0), ("add", 0, 0), ("add", 1, 1), ("add", 0, -HUGE), ("add", 1, HUGE),
)
NOT_LOTS = NOT_LISTS + (
    [], (), [(0, 1)], [[0, 1]], ([0, 1],), [((0, 1),)], (((0, 1),),), ((0, 1), [1, 1]), (0, 1), (0,), ("01",), ((),),
    ((0,),),
    ((0, 1, 2),), ((0, 1), (1,)), ((0, 1), ()), ((0, 1), 1), ((0, 1), None), (None,), ("0", 1), (("0", 1),),
    ((0, "1"),),
    ((0, True),), ((0, False),), ((False, 1),), ((True, 1),), ((0, 1), (True, 1)), ((0, 1), (1, False)), ((None, 1),),
    ((0, None),), ((0, (1,)),), ((0, [1]),), (((0,), 1),), ({0: 1},), {0: 1}, {(0, 1): True}, ((-1, 1),), ((12, 1),),
    ((0, 1), (12, 1)), ((0, 1), (0, 1)), ((0, 1), (0, 2)), ((1, 1), (0, 1)), ((0, 1), (2, 1), (1, 1)), ((HUGE, 1),),
    tuple((lane, 0) for lane in range(13)), Family([((0, 1),)]), CoFamily([((0, 1),)]), Map.same(1),
)
LOTS = (
    ((0, 0),), ((11, 0),), ((0, 3),), ((0, -3), (1, 5)), ((2, 7), (11, 7)), ((0, HUGE), (5, -HUGE), (6, 0)),
    tuple((lane, -lane) for lane in range(12)),
)
NOT_FAMILIES = NOT_LISTS + (
    [], (), [((0, 1),)], ((0, 1),), "Family([((0, 1),)])", CoFamily([((0, 1),)]), Map.same(1), [Family([((0, 1),)])],
)
NOT_MAPS = NOT_LISTS + ([], (), Family([((0, 0),)]), CoFamily([((0, 0),)]), [Family([((0, 0),)])], "Map")

# What is no paper of anything: each question whether a value is one says False of all of these.
NO_PAPERS = NOT_LISTS + (
    -1, HUGE, [], (), {}, set(), [0], (0,), [()], ((),), {None: None}, {0: None}, {0: True}, {True: 0}, {"a": 0},
    {(): ()},
    (0, 0), (0, 0, 0), [0, 0, 0], (None, None), (None, None, None), ([], []), ({}, {}), (0, ((0, 0),), {}), ("end",),
    ("ask",),
    ("end", None), ("ask", None, None), ("ask", ((0, 0),), {}), ("ask", (), {}), ("end", ()), ("end", [[0, 0]]),
    ["end", ((0, 0),)],
    {((0, 0),): None}, {((0, 0),): []}, {((0, 0),): ((0, [0]),)}, {((0, False),): 0}, {False: ((0, 0),)},
    {((0, 0),): False},
    object(), ValueError, [[[[]]]], ((((),),),), {0: {0: {0: {}}}}, Family([((0, 1),)]), CoFamily([((0, 1),)]),
    Map.same(2),
)


def antichain(many, one=0, other=1):
    """So many lots over two lanes, none of them under or over another one."""
    return [((one, number), (other, -number)) for number in range(many)]


class Draw:
    """Numbers, contents and nets drawn by a fixed rule, from a seed on."""

    def __init__(self, seed):
        self.state = seed * 7919 + 12345

    def below(self, many):
        self.state = (self.state * 6364136223846793005 + 1442695040888963407) % 2 ** 64
        return (self.state >> 33) * many >> 31

    def pick(self, things):
        return things[self.below(len(things))]

    def number(self, most):
        return self.below(2 * most + 1) - most

    def content(self, lanes, most):
        if most < 2 ** 30:
            return [self.number(most) for _ in range(lanes)]
        return [self.number(999999) * (most // 999999) + self.number(1) for _ in range(lanes)]

    def order(self, lanes):
        left = list(range(lanes))
        return [left.pop(self.below(len(left))) for _ in range(lanes)]

    def gate(self, lanes, words=WORDS):
        word = self.pick(words) if lanes > 1 else "add"
        i = self.below(lanes)
        if word == "add":
            return ("add", i, self.number(4))
        return (word, i, (i + 1 + self.below(lanes - 1)) % lanes)

    def gates(self, lanes, many, words=WORDS):
        return [self.gate(lanes, words) for _ in range(many)]

    def lot(self, lanes, most, least=1):
        wide = least + self.below(lanes - least + 1)
        return tuple((lane, self.content(1, most)[0]) for lane in sorted(self.order(lanes)[:wide]))

    def lots(self, many, lanes, most, least=1):
        return [self.lot(lanes, most, least) for _ in range(many)]

    def family(self, many, lanes, most, kind=Family, least=1):
        return kind(self.lots(many, lanes, most, least))

    def chart(self, many, lanes, most):
        return Map([self.family(1 + self.below(many), lanes, most) for _ in range(lanes)])

    def differences(self, lanes, many, most, least=None):
        """So many differences, not all of unlike pairs; numbers from least on, or from -most."""
        found = []
        for _ in range(many if lanes > 1 else 0):
            i = self.below(lanes)
            number = self.content(1, most)[0]
            found.append((i, (i + 1 + self.below(lanes - 1)) % lanes, number if least is None else max(least, number)))
        return found

    def row(self, lanes, most):
        """A row with None here and there."""
        return [None if self.below(3) == 0 else number for number in self.content(lanes, most)]

    def net(self, lanes, many, words=WORDS):
        return Net(lanes, self.gates(lanes, many, words))


def drawn_nets(times, most_lanes=12, most_gates=30, words=WORDS, least_lanes=1):
    """Many nets, each with the draw from which its contents can be drawn on."""
    found = []
    for seed in range(times):
        draw = Draw(seed)
        lanes = least_lanes + draw.below(most_lanes - least_lanes + 1)
        found.append((draw.net(lanes, draw.below(most_gates + 1), words), draw))
    return found


def drawn_families(times, many=4, lanes=4, kind=Family):
    """Many pairs of families, with the draw from which more can be drawn; numbers alike, small, long."""
    found = []
    for seed in range(times):
        draw = Draw(seed)
        most = draw.pick((0, 1, 3, 20, HUGE))
        wide = 1 + draw.below(lanes)
        one, other = [draw.family(1 + draw.below(many), wide, most, kind) for _ in range(2)]
        found.append((one, other, draw))
    return found


def without_key(told, key):
    return {other: told[other] for other in told if other != key}


def spoiled_dicts(told, odd_keys, odd_values):
    """What comes of a dict by leaving out a key, by one more, by another one, and by another value."""
    found = [list(told.items()), list(told), tuple(told.values()), (told,), [told]]
    for key in told:
        left = without_key(told, key)
        found.append(left)
        found.extend({**told, key: value} for value in odd_values)
        # True stands for 1 where it is looked up: as a further key it would only change a value.
        found.extend({**left, odd: told[key]} for odd in odd_keys if odd not in left and repr(odd) != repr(key))
    found.extend({**told, odd: value} for odd in odd_keys if odd not in told for value in list(told.values())[:1])
    return found


def spoil(told):
    """Changes all lists and dicts in what was told, however deep."""
    if isinstance(told, (list, tuple)):
        for inner in told:
            spoil(inner)
    if isinstance(told, list):
        told.append("spoiled")
    if isinstance(told, dict):
        for inner in told.values():
            spoil(inner)
        told["spoiled"] = None


def drawn_contents(draw, lanes):
    """Contents near one another, with equal numbers, far apart, and with up to thirty digits."""
    return [draw.content(lanes, most) for most in (1, 2, 6, 1000, HUGE)] + [[7] * lanes]


class Case(unittest.TestCase):
    """A test case that also looks at kinds: True is not 1, and a tuple is no list."""

    def same(self, told, wanted):
        self.assertEqual(told, wanted)
        self.assertEqual(repr(told), repr(wanted))

    def fails(self, kind, attributes, action, *parts, **named):
        """The call raises just this kind of error, with these attributes, equal and of the same kind."""
        with self.assertRaises(kind) as caught:
            action(*parts, **named)
        self.assertIs(type(caught.exception), kind)
        for name, wanted in attributes.items():
            self.same(getattr(caught.exception, name), wanted)

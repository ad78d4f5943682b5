"""Gates, and nets of them: lists of gates on one to twelve lanes."""

from lanelots.basics import check_content, check_lanes, check_many, check_order, is_count, is_integer, is_lane, is_list
from lanelots.errors import InvalidGate, InvalidGates, InvalidOther, InvalidPosition, TooMany

_TWO_LANE_WORDS = ("low", "high", "sort", "copy")


def is_gate(value, lanes):
    """Whether any value is a gate of so many lanes."""
    if not isinstance(value, tuple) or len(value) != 3:
        return False
    word, i, last = value
    if not isinstance(word, str) or not is_lane(i, lanes):
        return False
    if word == "add":
        return is_integer(last)
    return word in _TWO_LANE_WORDS and is_lane(last, lanes) and last != i


def lanes_of(gate):
    """The lanes that the gate has, one or two."""
    word, i, last = gate
    return (i,) if word == "add" else (i, last)


def are_touching(one, other):
    """Whether two gates have a lane in common."""
    return any([lane in lanes_of(other) for lane in lanes_of(one)])


def behind_gate(gate, content):
    """The content behind the gate, a new list."""
    word, i, last = gate
    found = list(content)
    if word == "add":
        found[i] = content[i] + last
    elif word == "copy":
        found[i] = content[last]
    elif word == "low":
        found[i] = min(content[i], content[last])
    elif word == "high":
        found[i] = max(content[i], content[last])
    else:
        found[i] = min(content[i], content[last])
        found[last] = max(content[i], content[last])
    return found


def turned_gate(gate):
    """The gate that does with changed signs what this one does."""
    word, i, last = gate
    if word == "low":
        return ("high", i, last)
    if word == "high":
        return ("low", i, last)
    if word == "sort":
        return ("sort", last, i)
    if word == "add":
        return ("add", i, -last)
    return gate


def gate_moved(gate, order):
    """The gate on lane order[i] in the place of each lane i."""
    word, i, last = gate
    if word == "add":
        return ("add", order[i], last)
    return (word, order[i], order[last])


class Net:
    """One to twelve lanes and a list of gates, done one behind another."""

    MOST_LANES = 12
    MOST_GATES = 400

    def __init__(self, lanes, gates=()):
        check_lanes(lanes, 1)
        _check_gates(gates, lanes)
        self._lanes = lanes
        self._gates = [tuple(gate) for gate in gates]

    @classmethod
    def of(cls, lanes, *gates):
        """The net of these gates."""
        return cls(lanes, gates)

    @property
    def lanes(self):
        """How many lanes the net has."""
        return self._lanes

    @property
    def is_plain(self):
        """Whether the net has no "add"."""
        return "add" not in [gate[0] for gate in self._gates]

    def gates(self):
        """The list of the gates."""
        return list(self._gates)

    def __len__(self):
        return len(self._gates)

    def __iter__(self):
        raise TypeError("a net is not iterated over: ask for its gates()")

    def __getitem__(self, at):
        check_position(at, len(self._gates))
        return self._gates[at]

    def __call__(self, content):
        """What the run of the content tells."""
        check_content(content, self._lanes)
        told = list(content)
        for gate in self._gates:
            told = behind_gate(gate, told)
        return told

    def __add__(self, other):
        """The other net behind this one."""
        if not isinstance(other, Net) or other._lanes != self._lanes:
            raise InvalidOther(other)
        return Net(self._lanes, self._gates + other._gates)

    def __mul__(self, other):
        """So many of this net, one behind another."""
        check_many(other)
        if len(self._gates) * other > self.MOST_GATES:
            raise TooMany("gates", self.MOST_GATES)
        # Without gates any number may come, even one by which Python takes no list.
        many = other if self._gates else 0
        return Net(self._lanes, self._gates * many)

    def __neg__(self):
        """The net turned about."""
        return Net(self._lanes, [turned_gate(gate) for gate in self._gates])

    def __eq__(self, other):
        return isinstance(other, Net) and self._lanes == other._lanes and self._gates == other._gates

    def __repr__(self):
        return f"Net({self._lanes}, {self._gates})"

    def beside(self, other):
        """The net with the lanes of the other one behind its own, and its gates likewise."""
        if not isinstance(other, Net):
            raise InvalidOther(other)
        lanes = self._lanes + other._lanes
        if lanes > self.MOST_LANES:
            raise TooMany("lanes", self.MOST_LANES)
        behind = list(range(self._lanes, lanes))
        return Net(lanes, self._gates + [gate_moved(gate, behind) for gate in other._gates])

    def renumbered(self, order):
        """The net in which lane i is lane order[i]."""
        check_order(order, self._lanes)
        return Net(self._lanes, [gate_moved(gate, order) for gate in self._gates])

    def wider(self, lanes):
        """The same gates on so many lanes."""
        check_lanes(lanes, self._lanes)
        return Net(lanes, self._gates)

    def with_gate(self, position, gate):
        """The net with this gate put in at the place."""
        check_position(position, len(self._gates) + 1)
        if not is_gate(gate, self._lanes):
            raise InvalidGate(gate)
        return Net(self._lanes, self._gates[:position] + [gate] + self._gates[position:])

    def without(self, position):
        """The net without the gate there."""
        check_position(position, len(self._gates))
        return Net(self._lanes, self._gates[:position] + self._gates[position + 1:])

    def cut(self, position):
        """The net of the gates ahead of the place, and that of those from it on."""
        check_position(position, len(self._gates) + 1)
        return (Net(self._lanes, self._gates[:position]), Net(self._lanes, self._gates[position:]))

    def exchanged(self, position):
        """The net with the gate there and the next one in the place of each other."""
        check_position(position, len(self._gates) - 1)
        ahead, behind = self._gates[:position], self._gates[position + 2:]
        return Net(self._lanes, ahead + [self._gates[position + 1], self._gates[position]] + behind)


def _check_gates(gates, lanes):
    """InvalidGates unless a list of gates of so many lanes; TooMany if it is too long."""
    if not is_list(gates):
        raise InvalidGates(None)
    for position, gate in enumerate(gates):
        if not is_gate(gate, lanes):
            raise InvalidGates(position)
    if len(gates) > Net.MOST_GATES:
        raise TooMany("gates", Net.MOST_GATES)


def check_position(position, places):
    """InvalidPosition unless one of so many places."""
    if not is_count(position) or position >= places:
        raise InvalidPosition(position)


def check_as_wide(net, other):
    """InvalidOther unless a net of as many lanes."""
    if not isinstance(other, Net) or other.lanes != net.lanes:
        raise InvalidOther(other)

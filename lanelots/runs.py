"""What runs of nets tell on their way, and which nets are shuffles of one another."""

from lanelots.basics import check_content, check_lane, check_many, is_count, is_lane, is_list
from lanelots.errors import InvalidOther, TooMany
from lanelots.nets import Net, are_touching, behind_gate, check_as_wide, lanes_of

MOST_ROUNDS = 1000
MOST_EXCHANGES = 1000


def contents(net, content):
    """The contents ahead of the first gate and behind each gate."""
    check_content(content, net.lanes)
    found = [list(content)]
    for gate in net.gates():
        found.append(behind_gate(gate, found[-1]))
    return found


def origins(net, content):
    """The origins of the lanes behind the run."""
    ahead = contents(net, content)
    found = [(lane, 0) for lane in range(net.lanes)]
    for gate, numbers in zip(net.gates(), ahead):
        found = _origins_behind(gate, numbers, found)
    return found


def _origins_behind(gate, numbers, ahead):
    """The origins behind a gate that is done at these numbers; the ones ahead stay as they are."""
    word, i, last = gate
    found = list(ahead)
    if word == "add":
        first, total = ahead[i]
        found[i] = (first, total + last)
    elif word == "copy":
        found[i] = ahead[last]
    elif word == "low" and numbers[last] < numbers[i]:
        found[i] = ahead[last]
    elif word == "high" and numbers[last] > numbers[i]:
        found[i] = ahead[last]
    elif word == "sort" and numbers[i] > numbers[last]:
        found[i], found[last] = ahead[last], ahead[i]
    return found


def rounds(net, content, many):
    """What stands behind so many rounds."""
    return passed(net, content, many)[-1]


def passed(net, content, many):
    """What stands behind 0, 1, and so on up to so many rounds."""
    check_content(content, net.lanes)
    check_many(many)
    if many > MOST_ROUNDS:
        raise TooMany("rounds", MOST_ROUNDS)
    found = [list(content)]
    for _ in range(many):
        found.append(net(found[-1]))
    return found


def list_of(net, lane):
    """The gates that have the lane, in their sequence."""
    check_lane(lane, net.lanes)
    return [gate for gate in net.gates() if lane in lanes_of(gate)]


def layers(net):
    """For each level, the places of its gates."""
    levels = _levels(net)
    found = [[] for _ in range(max(levels, default=-1) + 1)]
    for place, level in enumerate(levels):
        found[level].append(place)
    return found


def _levels(net):
    """The level of each gate. Along a lane levels rise, so the last gate ahead on each lane decides."""
    least = [0] * net.lanes
    found = []
    for gate in net.gates():
        level = max([least[lane] for lane in lanes_of(gate)])
        for lane in lanes_of(gate):
            least[lane] = level + 1
        found.append(level)
    return found


def by_layers(net):
    """The net whose gates come layer by layer, in each by place."""
    return Net(net.lanes, [net[place] for places in layers(net) for place in places])


def cone(net, lane):
    """The rising list of the places of the gates in the cone of the lane."""
    places, _ = _looking(net, lane)
    return places


def cone_net(net, lane):
    """The net of the gates in the cone alone, on all lanes."""
    return Net(net.lanes, [net[place] for place in cone(net, lane)])


def looked_at(net, lane):
    """The rising list of the lanes that are looked at ahead of the first gate."""
    _, lanes = _looking(net, lane)
    return lanes


def _looking(net, lane):
    """The places of the gates in the cone, and the lanes that are looked at ahead of them all."""
    check_lane(lane, net.lanes)
    gates = net.gates()
    looked = {lane}
    places = []
    for place in reversed(range(len(gates))):
        word, i, last = gates[place]
        if i in looked or (word == "sort" and last in looked):
            places.append(place)
            if word == "copy":
                looked.discard(i)
            if word == "sort":
                looked.add(i)
            if word != "add":
                looked.add(last)
    return (sorted(places), sorted(looked))


def is_shuffle(net, other):
    """Whether the two nets are shuffles of one another."""
    _check_net(other)
    return net.lanes == other.lanes and unlike_lane(net, other) is None


def first_shuffle(net):
    """The shuffle with the least list of gates."""
    waiting = net.gates()
    found = []
    while waiting:
        place = _least_free(waiting)
        found.append(waiting[place])
        del waiting[place]
    return Net(net.lanes, found)


def _least_free(gates):
    """The place of the least one of the gates that touch none ahead of them."""
    taken = {}
    best = 0
    for place, gate in enumerate(gates):
        if gate < gates[best] and not any([lane in taken for lane in lanes_of(gate)]):
            best = place
        for lane in lanes_of(gate):
            taken[lane] = True
    return best


def exchanges(net, other):
    """The fewest exchanges that lead from net to other; None if it is no shuffle."""
    if not is_shuffle(net, other):
        return None
    found = _sorting_places(_goals(net.gates(), other.gates()))
    if len(found) > MOST_EXCHANGES:
        raise TooMany("exchanges", MOST_EXCHANGES)
    return found


def _goals(gates, others):
    """The place of each gate among the others, the k-th one of equal ones being the k-th there."""
    places = {}
    for place, gate in enumerate(others):
        places.setdefault(gate, []).append(place)
    goals = []
    for gate in gates:
        goals.append(places[gate].pop(0))
    return goals


def _sorting_places(goals):
    """The places at which neighbours change, till the goals rise: one for each pair that fell."""
    standing = list(goals)
    found = []
    for end in range(len(standing)):
        place = end
        while place > 0 and standing[place - 1] > standing[place]:
            place = place - 1
            standing[place], standing[place + 1] = standing[place + 1], standing[place]
            found.append(place)
    return found


def are_exchanges(net, other, value):
    """Whether any value is a list of places of exchanges that lead from net to other."""
    _check_net(other)
    if not is_list(value) or net.lanes != other.lanes:
        return False
    gates = net.gates()
    for place in value:
        if not is_count(place) or place >= len(gates) - 1 or are_touching(gates[place], gates[place + 1]):
            return False
        gates[place], gates[place + 1] = gates[place + 1], gates[place]
    return gates == other.gates()


def unlike_lane(net, other):
    """The least lane whose lists are unlike, None without one."""
    check_as_wide(net, other)
    for lane in range(net.lanes):
        if list_of(net, lane) != list_of(other, lane):
            return lane
    return None


def is_unlike_lane(net, other, value):
    """Whether any value is a lane whose lists are unlike."""
    check_as_wide(net, other)
    return is_lane(value, net.lanes) and list_of(net, value) != list_of(other, value)


def _check_net(other):
    if not isinstance(other, Net):
        raise InvalidOther(other)

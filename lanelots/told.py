"""What a net tells, as a map: on which lanes its lanes hang, which nets are alike, and steps that show its map."""

from lanelots.basics import check_lane, is_list
from lanelots.cofamilies import lane_pair_of, parting_of
from lanelots.lots import first_under, is_lot, joined, raised_lots
from lanelots.maps import Map
from lanelots.nets import check_as_wide, check_position


def map_of(net):
    """The map of the net."""
    return map_behind(net, len(net))


def map_behind(net, position):
    """The map of the gates ahead of this place; TooMany if a family on the way has too many lots."""
    check_position(position, len(net) + 1)
    return Map(_families_on_the_way(net, position)[-1])


def _families_on_the_way(net, many):
    """The lists of the families of all lanes ahead of the first gate and behind each of so many first gates."""
    found = [Map.same(net.lanes).families()]
    for gate in net.gates()[:many]:
        found.append(_families_behind(gate, found[-1]))
    return found


def _families_behind(gate, families):
    """The families behind the gate, a new list."""
    word, i, last = gate
    found = list(families)
    if word == "add":
        found[i] = families[i] + last
    elif word == "copy":
        found[i] = families[last]
    elif word == "low":
        found[i] = families[i] & families[last]
    elif word == "high":
        found[i] = families[i] | families[last]
    else:
        found[i] = families[i] & families[last]
        found[last] = families[i] | families[last]
    return found


def lanes_hung(net, lane):
    """The sorted list of the lanes on which the lane hangs."""
    check_lane(lane, net.lanes)
    return map_of(net)[lane].hung()


def shown(net, lane, other):
    """Two contents that are unlike on the other lane alone, and leave the lane 0 and 1; None if it does not hang."""
    check_lane(lane, net.lanes)
    check_lane(other, net.lanes)
    return lane_pair_of(map_of(net)[lane], other, net.lanes)


def rise(net, position, lane):
    """The least and the greatest number by which each lane is more behind, if the lane rises by 1 at the place."""
    check_position(position, len(net) + 1)
    check_lane(lane, net.lanes)
    raised_net = net.with_gate(position, ("add", lane, 1))
    ahead = map_of(net).families()
    return [_rise_between(one, other) for one, other in zip(ahead, map_of(raised_net).families())]


def _rise_between(one, other):
    if one == other:
        return (0, 0)
    return (1, 1) if one + 1 == other else (0, 1)


def are_alike(net, other):
    """Whether both nets tell the same of all contents."""
    check_as_wide(net, other)
    return map_of(net) == map_of(other)


def unlike(net, other):
    """The least lane that is not told alike, and a content that shows it; None if the nets are alike."""
    check_as_wide(net, other)
    ones, others = map_of(net).families(), map_of(other).families()
    for lane in range(net.lanes):
        if ones[lane] != others[lane]:
            content = parting_of(ones[lane], others[lane], net.lanes)
            if content is None:
                content = parting_of(others[lane], ones[lane], net.lanes)
            return (lane, content)
    return None


def may_change(net, position):
    """Whether the net tells the same if the gate there and the next one are exchanged."""
    return are_alike(net, net.exchanged(position))


def steps_of(net):
    """Steps of the net: the lots of all lanes ahead of the first gate and behind each gate."""
    return [[family.lots() for family in families] for families in _families_on_the_way(net, len(net))]


def is_steps(net, value):
    """Whether any value is steps of the net."""
    gates = net.gates()
    if not is_list(value) or len(value) != len(gates) + 1:
        return False
    if not all([_is_step(step, net.lanes) for step in value]):
        return False
    if [list(lots) for lots in value[0]] != [[((lane, 0),)] for lane in range(net.lanes)]:
        return False
    return all([_is_step_behind(gate, ahead, step) for gate, ahead, step in zip(gates, value, value[1:])])


def _is_step(value, lanes):
    """Whether any value is a list that has for each lane a list of lots with these lanes, one lot at least."""
    return is_list(value) and len(value) == lanes and all([_are_lots(lots, lanes) for lots in value])


def _are_lots(value, lanes):
    if not is_list(value) or len(value) == 0:
        return False
    return all([is_lot(lot) and lot[-1][0] < lanes for lot in value])


def _is_step_behind(gate, ahead, step):
    """Whether the step tells what the gate does to the step ahead of it."""
    word, i, last = gate
    changed = (i, last) if word == "sort" else (i,)
    if not all([lane in changed or list(step[lane]) == list(ahead[lane]) for lane in range(len(step))]):
        return False
    if word == "add":
        return list(step[i]) == raised_lots(ahead[i], last)
    if word == "copy":
        return list(step[i]) == list(ahead[last])
    if word == "low":
        return _are_least(step[i], ahead[i], ahead[last])
    if word == "high":
        return _are_joins(step[i], ahead[i], ahead[last])
    return _are_least(step[i], ahead[i], ahead[last]) and _are_joins(step[last], ahead[i], ahead[last])


def _are_least(lots, ones, others):
    """Whether all lots are some of both lists, and each one of these has one of the lots under it."""
    both = [*ones, *others]
    return all([lot in both for lot in lots]) and all([first_under(lots, lot) is not None for lot in both])


def _are_joins(lots, ones, others):
    """Whether all lots are joins of one of each list, and each such join has one of the lots under it."""
    joins = {joined(one, other) for one in ones for other in others}
    return all([lot in joins for lot in lots]) and all([first_under(lots, lot) is not None for lot in sorted(joins)])

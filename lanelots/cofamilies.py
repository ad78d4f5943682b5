"""Papers of families and co-families: what is under and over, corners, saddles, what is below, and trees."""

from lanelots.basics import LANES_AT_MOST, check_lane, is_integer
from lanelots.errors import TooMany
from lanelots.lots import check_lot, check_reaching, first_over, first_under, greatest_at, is_reaching, numbers_in

MOST_NODES_TOLD = 1000
MOST_NODES = 4000


def unders(one, other):
    """For each lot of the other family the first lot of the one that is under it; None if some lot has none."""
    lots = one.lots()
    found = {lot: first_under(lots, lot) for lot in other.lots()}
    return None if None in list(found.values()) else found


def is_unders(one, other, value):
    """Whether any value is a dict from just the other family's lots to lots of the one that are under them."""
    if not _is_from(value, other):
        return False
    return all([value[lot] in one and first_under([value[lot]], lot) is not None for lot in other.lots()])


def parting(one, other):
    """The corner of the other family's first lot under which the one has none; None."""
    return parting_of(one, other, _lanes_needed([one, other]))


def parting_of(one, other, lanes):
    """The same as parting, of so many lanes."""
    lots = one.lots()
    for lot in other.lots():
        if first_under(lots, lot) is None:
            return _corner(lot, _above_all(lots), lanes)
    return None


def is_parting(one, other, value):
    """Whether any value is a content with all lanes of both at which one's value is above the other's."""
    return is_reaching(value, one.lots() + other.lots()) and one(value) > other(value)


def _lanes_needed(families):
    """How many lanes all of these families and co-families need together."""
    return 1 + max([family.hung()[-1] for family in families])


def _corner(lot, elsewhere, lanes):
    """The content of so many lanes at which all numbers of the lot come to 0, with one number elsewhere."""
    numbers = dict(lot)
    return [-numbers[lane] if lane in numbers else elsewhere for lane in range(lanes)]


def _above_all(lots):
    """A number of 1 or more that brings each of the lots that has a lane with it above 0."""
    return max(1, 1 - min(numbers_in(lots)))


def _below_all(lots):
    """A number of -1 or less that brings each of the co-lots that has a lane with it below 0."""
    return min(-1, -1 - max(numbers_in(lots)))


def lane_pair(family, lane):
    """A corner, and the same with the lane 1 more: the family tells 0, then 1. None if it does not hang on it."""
    check_lane(lane, LANES_AT_MOST)
    return lane_pair_of(family, lane, _lanes_needed([family]))


def lane_pair_of(family, lane, lanes):
    """The same as lane_pair, of so many lanes."""
    lots = family.lots()
    for lot in lots:
        if lane in dict(lot):
            corner = _corner(lot, _above_all(lots), lanes)
            return (corner, corner[:lane] + [corner[lane] + 1] + corner[lane + 1:])
    return None


def is_lane_pair(family, lane, value):
    """Whether any value is a tuple of two contents, unlike at this lane alone, with unlike values of the family."""
    check_lane(lane, LANES_AT_MOST)
    if not isinstance(value, tuple) or len(value) != 2:
        return False
    one, other = value
    lots = family.lots()
    if not is_reaching(one, lots) or not is_reaching(other, lots) or len(one) != len(other):
        return False
    unlike = [at for at in range(len(one)) if one[at] != other[at]]
    return unlike == [lane] and family(one) != family(other)


def saddle(family, content):
    """The value, the first lot that has it, and for each lot the first lane that comes up to it."""
    number = family(content)
    lots = family.lots()
    least = [lot for lot in lots if greatest_at(lot, content) <= number]
    return (number, least[0], {lot: _lanes_from(lot, content, number)[0] for lot in lots})


def _lanes_from(lot, content, number):
    """The lanes of the lot that come up to the number."""
    return [lane for lane, more in lot if content[lane] + more >= number]


def is_saddle(family, content, value):
    """Whether any value is a saddle of the family at the content."""
    check_reaching(content, family.lots())
    if not isinstance(value, tuple) or len(value) != 3:
        return False
    number, lot, lanes = value
    if not is_integer(number) or lot not in family or not _is_from(lanes, family):
        return False
    if greatest_at(lot, content) > number:
        return False
    return all([_is_lane_of(lanes[own], _lanes_from(own, content, number)) for own in family.lots()])


def _is_lane_of(value, lanes):
    return is_integer(value) and value in lanes


def _is_from(value, family):
    """Whether any value is a dict from just the lots of the family."""
    if not isinstance(value, dict) or len(value) != len(family):
        return False
    return all([key in family for key in value])


def below(lot, family):
    """For each lot of the family the first lane at which the co-lot holds; None unless it is below."""
    check_lot(lot)
    found = {own: _holding(lot, own) for own in family.lots()}
    if [] in list(found.values()):
        return None
    return {own: found[own][0] for own in found}


def is_below(lot, family, value):
    """Whether any value is a dict from just the family's lots to lanes at which the co-lot holds."""
    check_lot(lot)
    return _is_from(value, family) and all([_is_lane_of(value[own], _holding(lot, own)) for own in family.lots()])


def _holding(co_lot, lot):
    """The lanes of the lot at which the co-lot holds."""
    numbers = dict(co_lot)
    return [lane for lane, number in lot if lane in numbers and number >= numbers[lane]]


def needed(lot, family):
    """For each lane of the co-lot the first lot that needs it; None unless it is one of the other side."""
    if below(lot, family) is None:
        return None
    found = {part[0]: [own for own in family.lots() if _is_needing(own, lot, part)] for part in lot}
    if [] in list(found.values()):
        return None
    return {lane: found[lane][0] for lane in found}


def is_needed(lot, family, value):
    """Whether the co-lot is below, and any value is a dict from just its lanes to lots that need them."""
    if below(lot, family) is None or not _is_from_lanes(value, lot):
        return False
    return all([value[part[0]] in family and _is_needing(value[part[0]], lot, part) for part in lot])


def _is_needing(lot, co_lot, part):
    """Whether the lot has just this part of the co-lot, and the co-lot holds at no other lane of it."""
    return part in lot and _holding(co_lot, lot) == [part[0]]


def _is_from_lanes(value, lot):
    """Whether any value is a dict from just the lanes of the lot."""
    if not isinstance(value, dict) or len(value) != len(lot):
        return False
    lanes = dict(lot)
    return all([is_integer(key) and key in lanes for key in value])


def tree(one, other):
    """The tree that asks the lots of the family in sequence, till a co-lot of the other one fits; None without one."""
    _check_nodes(one.lots(), other.lots())
    return _tree_behind({}, one.lots(), other.lots())


def _check_nodes(lots, co_lots):
    """TooMany if the tree, its ends that fit nothing among it, has too many nodes."""
    nodes = 0
    waiting = [(0, {})]
    while waiting:
        asked, gone = waiting.pop()
        nodes = nodes + 1
        if nodes > MOST_NODES_TOLD:
            raise TooMany("nodes", MOST_NODES_TOLD)
        if asked < len(lots) and _fitting(gone, co_lots) is None:
            waiting.extend([(asked + 1, _gone_on(gone, part)) for part in lots[asked]])


def _tree_behind(gone, lots, co_lots):
    """The tree that asks these lots behind a way; None if one of its ends fits nothing."""
    co_lot = _fitting(gone, co_lots)
    if co_lot is not None:
        return ("end", co_lot)
    if not lots:
        return None
    branches = {part[0]: _tree_behind(_gone_on(gone, part), lots[1:], co_lots) for part in lots[0]}
    return None if None in list(branches.values()) else ("ask", lots[0], branches)


def _gone_on(gone, part):
    """The lanes that were gone, each with its least number, behind one more."""
    lane, number = part
    least = min(number, gone[lane]) if lane in gone else number
    return {**gone, lane: least}


def _fitting(gone, co_lots):
    """The first co-lot each of whose lanes was gone at a number that is at most its own; None."""
    for co_lot in co_lots:
        if _is_fitting(gone, co_lot):
            return co_lot
    return None


def _is_fitting(gone, co_lot):
    return all([lane in gone and gone[lane] <= number for lane, number in co_lot])


def is_tree(one, other, value):
    """Whether any value is a tree from the family to the co-family."""
    nodes = 0
    # Not by calls that call themselves: a tree may be nested deep.
    waiting = [(value, {})]
    while waiting:
        node, gone = waiting.pop()
        nodes = nodes + 1
        if nodes > MOST_NODES:
            return False
        if _is_ask(node, one):
            waiting.extend([(node[2][part[0]], _gone_on(gone, part)) for part in node[1]])
        elif not _is_end(node, other) or not _is_fitting(gone, node[1]):
            return False
    return True


def _is_ask(value, family):
    if not isinstance(value, tuple) or len(value) != 3 or value[0] != "ask":
        return False
    return value[1] in family and _is_from_lanes(value[2], value[1])


def _is_end(value, co_family):
    return isinstance(value, tuple) and len(value) == 2 and value[0] == "end" and value[1] in co_family


def above(one, other):
    """The corner of the first co-lot of the family's other side over which the co-family has none; None."""
    co_lots = other.lots()
    for lot in (~one).lots():
        if first_over(co_lots, lot) is None:
            return _corner(lot, _below_all(co_lots), _lanes_needed([one, other]))
    return None

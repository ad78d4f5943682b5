"""Nets for maps: from what each lane is to tell back to gates that do it."""

from lanelots.errors import TooMany
from lanelots.nets import Net
from lanelots.told import map_of

MOST_LANES_OF_MAPS = 5


def price(chart):
    """How many gates are reckoned for a net for the map."""
    lots = [lot for family in chart.families() for lot in family.lots()]
    return chart.lanes + sum([3 * len(lot) + 1 for lot in lots])


def net_of(chart):
    """A net for the map: the lanes stay till all results are told on lanes beside them."""
    if chart.lanes > MOST_LANES_OF_MAPS:
        raise TooMany("lanes", MOST_LANES_OF_MAPS)
    if price(chart) > Net.MOST_GATES:
        raise TooMany("gates", Net.MOST_GATES)
    gates = []
    for lane, family in enumerate(chart.families()):
        gates.extend(_gates_of_family(family, chart.lanes + lane, 2 * chart.lanes))
    gates.extend([("copy", lane, chart.lanes + lane) for lane in range(chart.lanes)])
    return Net(2 * chart.lanes + 2, gates)


def _gates_of_family(family, result, at_hand):
    """The gates that bring the family's value to the result's lane, by the two lanes at hand."""
    found = []
    for place, lot in enumerate(family.lots()):
        found.extend(_gates_of_lot(lot, at_hand))
        found.append(("copy" if place == 0 else "low", result, at_hand))
    return found


def _gates_of_lot(lot, at_hand):
    """The gates that bring the lot's value to the lane at hand, by the lane behind it."""
    lane, number = lot[0]
    found = [("copy", at_hand, lane), ("add", at_hand, number)]
    for lane, number in lot[1:]:
        found.extend([("copy", at_hand + 1, lane), ("add", at_hand + 1, number), ("high", at_hand, at_hand + 1)])
    return found


def is_net_of(net, chart):
    """Whether behind the net its first lanes are what the map tells of them, whatever stands on the others."""
    if net.lanes < chart.lanes:
        return False
    return map_of(net).families()[:chart.lanes] == chart.families()

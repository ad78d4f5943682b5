"""Maps for the tests of paces: drawn by a fixed rule, and by hand."""

from lanelots.families import Family
from lanelots.maps import Map
from tests.helpers import Draw

FAR = (0, 7, -100, 10 ** 29, -10 ** 29)


def one_lot(*lots):
    """The map of these lots, one for each lane."""
    return Map([Family([lot]) for lot in lots])


def several(*tables):
    return Map([Family(lots) for lots in tables])


def turns(*numbers):
    """The map that moves all lanes round by one, each with its number more."""
    lanes = len(numbers)
    return one_lot(*[(((lane + 1) % lanes, number),) for lane, number in enumerate(numbers)])


def raised(chart, number):
    return Map([family + number for family in chart.families()])


# The lanes are as fast as 1 and 5; lane 0 has the choice.
CHART = several([((0, 1),), ((1, 0),)], [((1, 5),)])
SWAP = turns(0, 1)
ROUND = turns(0, 0, 1)
SIX = Map.same(6)
SEVEN = Map.same(7)
# Just as far apart as the numbers may be, and one farther, near 0 and far from it.
SPREAD = one_lot(((0, 0), (1, 60)), ((1, 0),))
TOO_SPREAD = one_lot(((0, 0), (1, 61)), ((1, 0),))
FAR_SPREAD, FAR_TOO_SPREAD = raised(SPREAD, 10 ** 29), raised(TOO_SPREAD, -10 ** 29)
# Both limits at once.
WIDE_AND_SPREAD = one_lot(((0, 0),), *[((lane, 61),) for lane in range(1, 7)])
SPREADS = (TOO_SPREAD, FAR_TOO_SPREAD, one_lot(((0, -30),), ((1, 31),)), several([((0, 61), (1, 0)), ((1, 1),)],
                                                                                 [((0, 30),)]))


def drawn_maps(times, lanes=4, many=3, most=(0, 1, 2, 5, 30), far=FAR):
    """Maps of one to so many lanes, of one to so many lots a lane, with the draw from which more can be drawn."""
    for seed in range(times):
        draw = Draw(seed)
        wide, high = 1 + draw.below(lanes), draw.pick(most)
        order = draw.order(wide)
        if draw.below(3) == 0:
            families = [draw.family(1 + draw.below(many), wide, high) for _ in range(wide)]
        else:
            families = [drawn_narrow_family(draw, order[lane], wide, high) for lane in range(wide)]
        yield raised(Map(families), draw.pick(far)), draw


def drawn_narrow_family(draw, lane, lanes, most):
    """A family that goes on to this lane, sometimes with a further lot, or a further lane in it: so rings are long."""
    lots = [((lane, draw.number(most)),)]
    other = draw.below(lanes)
    more = draw.below(8)
    if more == 0:
        lots.append(((other, draw.number(most)),))
    if more == 1 and other != lane:
        lots = [tuple(sorted([*lots[0], (other, draw.number(most))]))]
    return Family(lots)


def drawn_even_maps(times, lanes=4, far=FAR):
    """Maps all of whose lanes have one pace: each lot has each lane, or each lane all single ones."""
    for seed in range(times):
        draw = Draw(seed + 1000)
        wide = 1 + draw.below(lanes)
        whole = draw.lots(1 + draw.below(3), wide, 6, wide)
        families = [Family(draw.lots(1 + draw.below(3), wide, 6, wide)) for _ in range(wide)]
        if draw.below(3) == 0:
            families[0] = Family(whole)
        if draw.below(2) == 0:
            families = [Family([((lane, draw.number(6)),) for lane in range(wide)]) for _ in range(wide)]
        yield raised(Map(families), draw.pick(far)), draw

"""Claims for the tests: each line of the table, parts drawn by a fixed rule, what the second column tells of them."""

from lanelots import gaps, pace, plainrounds, runs, sources, spans, told
from lanelots.even import even_of
from lanelots.families import Family, lies_below
from lanelots.maps import Map
from lanelots.nets import Net
from lanelots.spans import Spans
from tests.helpers import HUGE, Draw
from tests.pace_maps import drawn_narrow_family

# The first word, the contrary one, the kinds of the parts, and at which of them things stand.
TABLE = (
    ("below", "over", ("family", "family"), (0, 1)),
    ("tells", "misses", ("family", "content", "number"), (0,)),
    ("shuffled", "sorted", ("net", "net"), (0, 1)),
    ("alike", "unlike", ("net", "net"), (0, 1)),
    ("hangs", "free", ("net", "lane", "lane"), (0,)),
    ("fits", "empty", ("spans",), (0,)),
    ("within", "beyond", ("spans", "family", "family", "number"), (0, 1, 2)),
    ("kept", "broken", ("spans", "map"), (0, 1)),
    ("reached", "barred", ("map", "row", "row"), (0,)),
    ("settles", "laps", ("map",), (0,)),
    ("paced", "faster", ("map", "lane", "rate"), (0,)),
    ("even", "uneven", ("map",), (0,)),
)
WORDS = [word for one, other, _, _ in TABLE for word in (one, other)]
KINDS = {word: kinds for one, other, kinds, _ in TABLE for word in (one, other)}
CONTRARIES = dict([(one, other) for one, other, _, _ in TABLE] + [(other, one) for one, other, _, _ in TABLE])


def is_first_true(word, parts):
    """What the second column tells of the parts."""
    if word == "below":
        return lies_below(*parts)
    if word == "tells":
        return parts[0](parts[1]) == parts[2]
    if word == "shuffled":
        return runs.exchanges(*parts) is not None
    if word == "alike":
        return told.are_alike(*parts)
    if word == "hangs":
        return told.shown(*parts) is not None
    if word == "fits":
        return spans.fitting(*parts) is not None
    if word == "within":
        most = gaps.gap(*parts[:3])
        return most is not None and most <= parts[3]
    if word == "kept":
        return gaps.keeps(*parts)
    if word == "reached":
        return sources.source(*parts) is not None
    if word == "settles":
        return plainrounds.settles(*parts)
    if word == "paced":
        return pace.is_at_most(*parts)
    return even_of(*parts) is not None


def drawn_parts(word, draw):
    """Parts of a claim with this first word; some of them leave it true, some not."""
    lanes = 1 + draw.below(4)
    if word == "below":
        one, other = draw.family(2, lanes, 2), draw.family(2, lanes, 2)
        return (one & other, other) if draw.below(3) == 0 else (one, other)
    if word == "tells":
        family, content = draw.family(3, lanes, 3), draw.content(lanes, draw.pick((2, HUGE)))
        return family, content, family(content) + draw.pick((0, 0, 1, -1))
    if word in ("shuffled", "alike"):
        return drawn_nets(draw, lanes)
    if word == "hangs":
        return draw.net(lanes, 3), draw.below(lanes), draw.below(lanes)
    if word == "fits":
        return (Spans(lanes, draw.differences(lanes, 4, 4, -2)),)
    if word == "within":
        one, other = draw.family(2, lanes, 2), draw.family(2, lanes, 2)
        return Spans(lanes, draw.differences(lanes, 3 * lanes, 4, 0)), one, other, draw.number(5)
    if word == "kept":
        return drawn_kept(draw, lanes)
    return drawn_parts_of_maps(word, draw, lanes)


def drawn_nets(draw, lanes):
    """A net, and one of as many lanes that is perhaps alike or even a shuffle."""
    net = draw.net(lanes, 2 + draw.below(5))
    if draw.below(3) == 0:
        return net, net.exchanged(draw.below(len(net) - 1))
    return net, runs.first_shuffle(net) if draw.below(2) else draw.net(lanes, 2)


def drawn_kept(draw, lanes):
    held = Spans(lanes, draw.differences(lanes, 2, 4, 0))
    chart = Map([draw.family(1 + draw.below(2), lanes, 1) for _ in range(lanes)])
    return (held, chart) if draw.below(2) else (gaps.behind(Spans(lanes), Map.same(lanes)) & held, Map.same(lanes))


def drawn_parts_of_maps(word, draw, lanes):
    if word == "settles":
        return (drawn_map(draw, lanes, 0),)
    chart = drawn_map(draw, lanes, 3)
    if word == "reached":
        told_numbers = chart(draw.content(lanes, 3))
        low = [None if draw.below(4) == 0 else number + draw.below(2) for number in told_numbers]
        high = [None if draw.below(4) == 0 else number - draw.below(2) + draw.below(3) for number in told_numbers]
        return chart, low, high
    if word == "paced":
        return chart, draw.below(lanes), (draw.number(6), 1 + draw.below(4))
    return (chart,)


def drawn_map(draw, lanes, most):
    """A map of families of any lots, or one that nearly only renumbers lanes: so there are laps and unlike paces."""
    if draw.below(2):
        return Map([draw.family(1 + draw.below(2), lanes, most) for _ in range(lanes)])
    return Map([drawn_narrow_family(draw, lane, lanes, most) for lane in draw.order(lanes)])


def drawn_claims(times):
    """Tuples of a first word, parts, and whether the claim with this word is true."""
    for word, _, _, _ in TABLE:
        for seed in range(times):
            draw = Draw(seed * 31 + len(word))
            parts = drawn_parts(word, draw)
            yield word, parts, is_first_true(word, parts)


# A claim of each line that is true by the first word, and one that is not.
TRUE_PARTS = {
    "below": (Family([((0, 0),)]), Family([((0, 1), (1, 5))])),
    "tells": (Family([((0, 1),), ((1, 0),)]), [4, 2], 2),
    "shuffled": (Net(3, [("low", 0, 1), ("add", 2, 1)]), Net(3, [("add", 2, 1), ("low", 0, 1)])),
    "alike": (Net(2, [("low", 0, 1), ("low", 0, 1)]), Net(2, [("low", 0, 1)])),
    "hangs": (Net(2, [("low", 0, 1)]), 0, 1),
    "fits": (Spans(2, [(0, 1, 3)]),),
    "within": (Spans(2, [(0, 1, 3)]), Family([((0, 0),)]), Family([((1, 1),)]), 2),
    "kept": (Spans(2, [(0, 1, 3)]), Map([Family([((0, 0), (1, 0))]), Family([((1, 1),)])])),
    "reached": (Map([Family([((0, 2),), ((1, 2),)]), Family([((1, 0),)])]), [5, 3], [5, 3]),
    "settles": (Map([Family([((0, 0),)]), Family([((0, 0),), ((1, 0),)])]),),
    "paced": (Map([Family([((0, 1),), ((1, 0),)]), Family([((1, 5),)])]), 0, (1, 1)),
    "even": (Map([Family([((1, 0),)]), Family([((0, 1),)])]),),
}
UNTRUE_PARTS = {
    "below": (Family([((0, 0),)]), Family([((0, 1),), ((1, 5),)])),
    "tells": (Family([((0, 1),), ((1, 0),)]), [4, 2], 3),
    "shuffled": (Net(2, [("low", 0, 1), ("add", 0, 1)]), Net(2, [("add", 0, 1), ("low", 0, 1)])),
    "alike": (Net(2, [("low", 0, 1)]), Net(2, [("low", 0, 1), ("add", 0, 2)])),
    "hangs": (Net(2, [("low", 0, 1)]), 1, 0),
    "fits": (Spans(2, [(0, 1, -5), (1, 0, 4)]),),
    "within": (Spans(2, [(0, 1, 3)]), Family([((0, 0),)]), Family([((1, 1),)]), 1),
    "kept": (Spans(2, [(0, 1, 3)]), Map([Family([((0, 1),)]), Family([((1, 0),)])])),
    "reached": (Map([Family([((0, 2),), ((1, 2),)]), Family([((1, 0),)])]), [6, 3], [6, 3]),
    "settles": (Map([Family([((1, 0),)]), Family([((0, 0),)])]),),
    "paced": (Map([Family([((0, 1),), ((1, 0),)]), Family([((1, 5),)])]), 0, (59, 60)),
    "even": (Map([Family([((0, 1),), ((1, 0),)]), Family([((1, 5),)])]),),
}

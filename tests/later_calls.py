"""The same as calls, for the functions of stages 3 to 6 of the interface."""

from lanelots import back, gaps, heads, plainrounds, sources, spans, tables, told
from lanelots.families import Family
from lanelots.maps import Map
from lanelots.nets import Net
from lanelots.spans import Spans

NET = Net(3, [("sort", 0, 1), ("high", 1, 2), ("add", 0, 4)])
STEPS = [
    [[((0, 0),)], [((1, 0),)], [((2, 0),)]],
    [[((0, 0),), ((1, 0),)], [((0, 0), (1, 0))], [((2, 0),)]],
    [[((0, 0),), ((1, 0),)], [((0, 0), (1, 0), (2, 0))], [((2, 0),)]],
    [[((0, 4),), ((1, 4),)], [((0, 0), (1, 0), (2, 0))], [((2, 0),)]],
]
SWAP = Map([Family([((1, 0),)]), Family([((0, 0),)])])
SWAPPING = Net(3, [("copy", 2, 0), ("copy", 0, 1), ("copy", 1, 2)])
SWAPPED = Net(6, [("copy", 4, 1), ("add", 4, 0), ("copy", 2, 4), ("copy", 4, 0), ("add", 4, 0), ("copy", 3, 4),
                  ("copy", 0, 2), ("copy", 1, 3)])
HELD = Spans(3, [(0, 1, 2), (1, 2, -1), (0, 2, 5)])
EMPTY = Spans(2, [(0, 1, -1), (1, 0, 0)])
F, G = Family([((0, 0),), ((2, 3),)]), Family([((1, 0),)])
PAPER, ENDLESS = [(((0, 0),), [[0, 1]])], (((0, 0),), [1, 2])
SAME = Map.same(3)
LOW = Map([Family([((0, 0),), ((1, 0),)])] + SAME.families()[1:])
CHART = Map([Family([((0, 2),), ((1, 2),)]), Family([((1, 0),)])])
LADDER = [[[None, 3], [3, None]], [[None, 3]]]
NOWHERE = ([[[None, 4], [4, None]], [[None, 3]]], [0])
TURNS = Map([Family([((1, 0),)]), Family([((0, 0),)]), Family([((0, 0),), ((1, 0), (2, 0))])])
TABLE = [(0, 0, 0), (0, 0, 0), (1, 0, 0), (1, 0, 0), (0, 1, 0), (0, 1, 1), (1, 1, 1), (1, 1, 1)]
LEAST = Map([Family([((0, 0),)]), Family([((0, 0),), ((1, 0),)])])
COUNTS = {(0, 0): 0, (0, 1): 1, (1, 0): 0, (1, 1): 0}

NETS = (
    (told.map_of, {"net": SWAPPING}, Map([Family([((1, 0),)]), Family([((0, 0),)]), Family([((0, 0),)])])),
    (told.map_behind, {"net": SWAPPING, "position": 1}, Map(SAME.families()[:2] + SAME.families()[:1])),
    (told.lanes_hung, {"net": NET, "lane": 1}, [0, 1, 2]),
    (told.shown, {"net": NET, "lane": 0, "other": 1}, ([1, -4, 1], [1, -3, 1])),
    (told.rise, {"net": Net(2, [("low", 0, 1)]), "position": 0, "lane": 0}, [(0, 1), (0, 0)]),
    (told.are_alike, {"net": NET, "other": Net(3)}, False),
    (told.unlike, {"net": NET, "other": Net(3, [("low", 0, 1), ("add", 0, 4)])}, (1, [1, 0, 1])),
    (told.may_change, {"net": NET, "position": 1}, True),
    (told.steps_of, {"net": NET}, STEPS),
    (told.is_steps, {"net": NET, "value": STEPS}, True),
    (back.price, {"chart": SWAP}, 10),
    (back.net_of, {"chart": SWAP}, SWAPPED),
    (back.is_net_of, {"net": SWAPPING, "chart": SWAP}, True),
)
SPANS = (
    (Spans, {"lanes": 3, "differences": [(0, 1, 2), (1, 2, -1), (0, 2, 5)]}, HELD),
    (HELD.differences, {}, [(0, 1, 2), (0, 2, 5), (1, 2, -1)]),
    (HELD.number, {"one": 1, "other": 2}, -1),
    (HELD.closed, {}, Spans(3, [(0, 1, 2), (0, 2, 1), (1, 2, -1)])),
    (Spans.ball, {"content": [5, 3], "many": 2}, Spans(2, [(0, 1, 4), (1, 0, 0)])),
    (spans.within, {"spans": HELD, "other": Spans(3, [(0, 2, 1)])}, True),
    (spans.sum_of, {"spans": HELD, "way": [0, 1, 2]}, 1),
    (spans.is_ring, {"spans": EMPTY, "value": [0, 1]}, True),
    (spans.ring, {"spans": EMPTY}, spans.ring(EMPTY)),
    (spans.fitting, {"spans": HELD}, [0, -1, 0]),
    (spans.way, {"spans": HELD, "one": 0, "other": 2}, [0, 1, 2]),
    (spans.needless, {"spans": HELD}, [(0, 2, 5)]),
    (spans.lean, {"spans": HELD}, Spans(3, [(0, 1, 2), (1, 2, -1)])),
    (spans.summit, {"spans": HELD, "row": [None, 0, None]}, [2, 0, None]),
    (spans.lifted, {"spans": HELD, "row": [None, 0, None], "number": 7}, [2, 0, 7]),
    (gaps.value_at, {"family": F, "row": [None, 1, 2]}, 5),
    (gaps.corner, {"lot": ((0, 3), (2, -1)), "lanes": 4}, [-3, None, 1, None]),
    (gaps.gap, {"spans": HELD, "family": F, "second": G}, 2),
    (gaps.at_most, {"spans": HELD, "family": F, "second": G, "number": 2}, PAPER),
    (gaps.above, {"spans": HELD, "family": F, "second": G, "number": 1}, [2, 0, 2]),
    (gaps.endless, {"spans": HELD, "family": G, "second": F}, ENDLESS),
    (gaps.is_at_most, {"spans": HELD, "family": F, "second": G, "number": 2, "value": PAPER}, True),
    (gaps.is_above, {"spans": HELD, "family": F, "second": G, "number": 1, "value": [2, 0, 1]}, True),
    (gaps.is_endless, {"spans": HELD, "family": G, "second": F, "value": ENDLESS}, True),
    (gaps.behind, {"spans": HELD, "chart": LOW}, Spans(3, [(0, 1, 0), (0, 2, -1), (1, 2, -1)])),
    (gaps.leads, {"spans": HELD, "chart": LOW, "other": Spans(3, [(0, 1, 0)])}, True),
    (gaps.slip, {"spans": HELD, "chart": SAME, "other": Spans(3, [(0, 1, 0)])}, [2, 0, 1]),
    (gaps.is_slip, {"spans": HELD, "chart": SAME, "other": Spans(3, [(0, 1, 0)]), "value": [1, 0, 1]}, True),
    (gaps.keeps, {"spans": HELD, "chart": LOW}, True),
    (gaps.alike_where, {"spans": HELD, "chart": LOW, "second": SAME}, False),
    (gaps.unlike_where, {"spans": HELD, "chart": LOW, "second": SAME}, (0, [2, 0, 1])),
    (gaps.is_unlike_where, {"spans": HELD, "chart": LOW, "second": SAME, "value": (0, [1, 0, 1])}, True),
)
SOURCES = (
    (heads.at_ceiling, {"chart": CHART, "row": [None, 3]}, [5, 3]),
    (heads.at_floor, {"chart": CHART, "row": [None, 3]}, [None, 3]),
    (heads.heads, {"chart": CHART, "row": [5, None]}, [[None, 3], [3, None]]),
    (heads.feet, {"chart": CHART, "row": [5, None]}, [[3, 3]]),
    (heads.is_head, {"chart": CHART, "row": [5, 3], "value": [None, 3]}, True),
    (heads.is_foot, {"chart": CHART, "row": [5, 3], "value": [3, 3]}, True),
    (heads.ladder, {"chart": CHART, "row": [5, 3]}, LADDER),
    (heads.is_ladder, {"chart": CHART, "row": [5, 3], "value": LADDER}, True),
    (heads.heads_back, {"chart": CHART, "row": [5, None], "many": 2}, [[None, 3], [1, None]]),
    (sources.source, {"chart": CHART, "low": [5, 3], "high": [5, 3]}, [5, 3]),
    (sources.is_source, {"chart": CHART, "low": [5, 3], "high": [5, 3], "value": [3, 3]}, True),
    (sources.boxes, {"chart": CHART, "low": [5, 3], "high": [5, 3]}, [([3, 3], [None, 3])]),
    (sources.how_many, {"chart": SWAP, "low": [5, 3], "high": [9, 4]}, 10),
    (sources.nowhere, {"chart": CHART, "low": [6, 3], "high": [6, 3]}, NOWHERE),
    (sources.is_nowhere, {"chart": CHART, "low": [6, 3], "high": [6, 3], "value": NOWHERE}, True),
    (sources.fitting_source, {"chart": CHART, "low": [5, 3], "high": [5, 3], "spans": Spans(2, [(0, 1, 0)])}, [3, 3]),
)
ROUNDS = (
    (tables.flags_at, {"content": [5, 7, 6], "number": 6}, (0, 1, 1)),
    (tables.led, {"chart": TURNS, "flags": (0, 1, 1)}, (1, 0, 0)),
    (tables.least_flags, {"chart": TURNS, "lane": 2}, [(1, 0, 1), (1, 1, 0)]),
    (tables.greatest_flags, {"chart": TURNS, "lane": 2}, [(0, 1, 1), (1, 0, 0)]),
    (tables.table_of, {"chart": TURNS}, TABLE),
    (tables.is_table, {"value": TABLE}, True),
    (tables.map_by, {"table": TABLE}, TURNS),
    (plainrounds.comes, {"chart": TURNS}, (2, 2)),
    (plainrounds.comes_of, {"chart": TURNS, "content": [4, 4, 1]}, (1, 1)),
    (plainrounds.settles, {"chart": TURNS}, False),
    (plainrounds.settled, {"chart": LEAST}, LEAST),
    (plainrounds.map_behind, {"chart": TURNS, "many": 10 ** 20}, Map(SAME.families()[:2] + [TURNS[2] & TURNS[0]])),
    (plainrounds.content_behind, {"chart": TURNS, "content": [5, 7, 6], "many": 10 ** 20}, [5, 7, 5]),
    (plainrounds.laps, {"chart": TURNS}, [[(0, 0, 0)], [(0, 1, 0), (1, 0, 0)], [(1, 1, 1)]]),
    (plainrounds.ranks, {"chart": LEAST}, COUNTS),
    (plainrounds.is_lap, {"chart": TURNS, "value": [(1, 0, 0), (0, 1, 0)]}, True),
    (plainrounds.is_settling, {"chart": LEAST, "many": 1,
                               "value": {flags: COUNTS[flags] for flags in reversed(COUNTS)}},
     True),
    (plainrounds.stands, {"chart": TURNS, "content": [4, 4, 4]}, True),
    (plainrounds.standing, {"chart": TURNS}, [(0, 0, 0), (1, 1, 1)]),
    (plainrounds.risen, {"chart": TURNS, "content": [4, 4, 1]}, [4, 4, 4]),
    (plainrounds.fallen, {"chart": LEAST, "content": [1, 3]}, [1, 1]),
    (plainrounds.holders, {"chart": TURNS, "order": [0, 2, 1], "many": 1}, [1, 0, 0]),
    (plainrounds.held, {"chart": TURNS, "lane": 2, "many": 1}, [0, 1, 2]),
    (plainrounds.holding, {"chart": TURNS, "lane": 2, "other": 1, "many": 1}, [2, 1, 0]),
    (plainrounds.alike_from, {"one": TURNS, "other": TURNS}, 0),
    (plainrounds.parting_round, {"one": TURNS, "other": SAME}, (2, (0, 0, 1))),
)
FUNCTIONS = NETS + SPANS + SOURCES + ROUNDS

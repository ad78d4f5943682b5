"""For each function and method of the interface: a call by the names of its parameters, and what it tells."""

from lanelots import basics, cofamilies, families, lots, maps, runs
from lanelots.families import CoFamily, Family
from lanelots.maps import Map
from lanelots.nets import Net

NET = Net(3, [("low", 0, 1), ("sort", 1, 2), ("add", 0, 2)])
OTHER = Net(3, [("low", 0, 1), ("add", 0, 2), ("sort", 1, 2)])

LOT, WIDE, APART = ((0, 3),), ((0, 3), (2, -1)), ((1, 0),)
FAMILY, CO_FAMILY = Family([WIDE, APART]), CoFamily([WIDE, APART])
CHART = Map([FAMILY, Family([LOT]), Family([APART])])
TREE = ("ask", ((0, 3),), {0: ("end", ((0, 4),))})

# The parameters in the sequence of the interface, and what is told.
FUNCTIONS = (
    (basics.is_integer, {"value": 1}, True),
    (basics.is_count, {"value": -1}, False),
    (basics.is_content, {"value": [1, 2]}, True),
    (basics.is_row, {"value": [None, 2]}, True),
    (basics.spread, {"content": [5, 3, 9]}, 6),
    (basics.farthest, {"content": [5, 3, 9], "other": [5, 4, 7]}, 2),
    (basics.is_at_most, {"content": [5, 3, 7], "other": [5, 4, 7]}, True),
    (basics.raised, {"content": [5, 3, 9], "number": -1}, [4, 2, 8]),
    (basics.turned, {"content": [5, 3, 9]}, [-5, -3, -9]),
    (basics.moved, {"content": [5, 3, 9], "order": [2, 0, 1]}, [3, 9, 5]),
    (Net, {"lanes": 2, "gates": [("low", 0, 1)]}, Net.of(2, ("low", 0, 1))),
    (NET, {"content": [5, 3, 1]}, [5, 1, 3]),
    (NET.gates, {}, [("low", 0, 1), ("sort", 1, 2), ("add", 0, 2)]),
    (NET.beside, {"other": Net(1)}, Net(4, NET.gates())),
    (NET.renumbered, {"order": [1, 0, 2]}, Net(3, [("low", 1, 0), ("sort", 0, 2), ("add", 1, 2)])),
    (NET.wider, {"lanes": 4}, Net(4, NET.gates())),
    (NET.with_gate, {"position": 0, "gate": ("add", 2, 1)}, Net(3, [("add", 2, 1)] + NET.gates())),
    (NET.without, {"position": 0}, Net(3, NET.gates()[1:])),
    (NET.cut, {"position": 1}, (Net(3, NET.gates()[:1]), Net(3, NET.gates()[1:]))),
    (NET.exchanged, {"position": 1}, OTHER),
    (runs.contents, {"net": NET, "content": [5, 3, 1]}, [[5, 3, 1], [3, 3, 1], [3, 1, 3], [5, 1, 3]]),
    (runs.origins, {"net": NET, "content": [5, 3, 1]}, [(1, 2), (2, 0), (1, 0)]),
    (runs.rounds, {"net": NET, "content": [5, 3, 1], "many": 2}, [3, 1, 3]),
    (runs.passed, {"net": NET, "content": [5, 3, 1], "many": 2}, [[5, 3, 1], [5, 1, 3], [3, 1, 3]]),
    (runs.list_of, {"net": NET, "lane": 0}, [("low", 0, 1), ("add", 0, 2)]),
    (runs.layers, {"net": NET}, [[0], [1, 2]]),
    (runs.by_layers, {"net": NET}, NET),
    (runs.cone, {"net": NET, "lane": 0}, [0, 2]),
    (runs.cone_net, {"net": NET, "lane": 0}, Net(3, [("low", 0, 1), ("add", 0, 2)])),
    (runs.looked_at, {"net": NET, "lane": 0}, [0, 1]),
    (runs.is_shuffle, {"net": NET, "other": OTHER}, True),
    (runs.first_shuffle, {"net": NET}, OTHER),
    (runs.exchanges, {"net": NET, "other": OTHER}, [1]),
    (runs.are_exchanges, {"net": NET, "other": OTHER, "value": [1]}, True),
    (runs.unlike_lane, {"net": NET, "other": Net(3, NET.gates()[:2])}, 0),
    (runs.is_unlike_lane, {"net": NET, "other": Net(3, NET.gates()[:2]), "value": 1}, False),
    (lots.is_lot, {"value": WIDE}, True),
    (lots.lot_value, {"lot": WIDE, "content": [5, 0, 10]}, 9),
    (lots.co_value, {"lot": WIDE, "content": [5, 0, 10]}, 8),
    (lots.is_under, {"one": LOT, "other": WIDE}, True),
    (lots.is_over, {"one": LOT, "other": WIDE}, True),
    (lots.least_lots, {"lots": [WIDE, LOT, APART]}, [LOT, APART]),
    (lots.over_lots, {"lots": [WIDE, LOT, APART]}, [LOT, APART]),
    (Family, {"lots": [APART, WIDE, WIDE]}, FAMILY),
    (FAMILY, {"content": [5, 9, 10]}, 9),
    (FAMILY.lots, {}, [WIDE, APART]),
    (FAMILY.hung, {}, [0, 1, 2]),
    (CoFamily, {"lots": [APART, WIDE, WIDE]}, CO_FAMILY),
    (CO_FAMILY, {"content": [5, 7, 10]}, 8),
    (CO_FAMILY.lots, {}, [WIDE, APART]),
    (CO_FAMILY.hung, {}, [0, 1, 2]),
    (families.lies_below, {"one": FAMILY, "other": Family([WIDE])}, True),
    (cofamilies.unders, {"one": FAMILY, "other": Family([WIDE])}, {WIDE: WIDE}),
    (cofamilies.is_unders, {"one": FAMILY, "other": Family([WIDE]), "value": {WIDE: WIDE}}, True),
    (cofamilies.parting, {"one": Family([WIDE]), "other": FAMILY}, [2, 0, 2]),
    (cofamilies.is_parting, {"one": Family([WIDE]), "other": FAMILY, "value": [2, 0, 2]}, True),
    (cofamilies.lane_pair, {"family": FAMILY, "lane": 1}, ([2, 0, 2], [2, 1, 2])),
    (cofamilies.is_lane_pair, {"family": FAMILY, "lane": 1, "value": ([2, 0, 2], [2, 1, 2])}, True),
    (cofamilies.saddle, {"family": FAMILY, "content": [5, 9, 10]}, (9, WIDE, {WIDE: 2, APART: 1})),
    (cofamilies.is_saddle, {"family": FAMILY, "content": [5, 9, 10], "value": (9, APART, {WIDE: 2, APART: 1})}, True),
    (cofamilies.below, {"lot": ((0, 3), (1, 0)), "family": FAMILY}, {WIDE: 0, APART: 1}),
    (cofamilies.is_below, {"lot": ((0, 3), (1, 0)), "family": FAMILY, "value": {WIDE: 0, APART: 1}}, True),
    (cofamilies.needed, {"lot": ((0, 3), (1, 0)), "family": FAMILY}, {0: WIDE, 1: APART}),
    (cofamilies.is_needed, {"lot": ((0, 3), (1, 0)), "family": FAMILY, "value": {0: WIDE, 1: APART}}, True),
    (cofamilies.tree, {"one": Family([LOT]), "other": CoFamily([((0, 4),)])}, TREE),
    (cofamilies.is_tree, {"one": Family([LOT]), "other": CoFamily([((0, 4),)]), "value": TREE}, True),
    (cofamilies.above, {"one": Family([LOT]), "other": CoFamily([APART])}, [-3, -1]),
    (Map, {"families": [FAMILY, Family([LOT]), Family([APART])]}, CHART),
    (Map.same, {"lanes": 1}, Map([Family([((0, 0),)])])),
    (CHART, {"content": [5, 9, 10]}, [9, 8, 9]),
    (CHART.families, {}, [FAMILY, Family([LOT]), Family([APART])]),
    (CHART.beside, {"other": Map.same(1)}, Map(CHART.families() + [Family([((3, 0),)])])),
    (CHART.renumbered, {"order": [0, 2, 1]}, Map([Family([((0, 3), (1, -1)), ((2, 0),)]), Family([((2, 0),)]),
                                                  Family([LOT])])),
    (CHART.with_family, {"lane": 1, "family": FAMILY}, Map([FAMILY, FAMILY, Family([APART])])),
    (maps.fed, {"family": Family([APART]), "chart": CHART}, Family([LOT])),
)

"""The same as calls, for the functions of stages 7 and 8 of the interface."""

from lanelots import even, pace, plans, walks
from lanelots.families import Family
from lanelots.maps import Map
from tests.pace_maps import CHART, SWAP

ONE_LOT = Map([Family([((0, 2), (1, 1))]), Family([((0, 3),)])])
PLAN = {1: (((1, 5),), 0), 0: (((1, 0),), -5)}
ANSWER = {1: ([1], 1), 0: ([0, 1], 0)}
WALK = ([(1, 1), (5, 1)], [0, 1])
UNEVEN = (0, (1, 1), {0: (((0, 1),), 0)}, 1, (5, 1), {1: ([1], 0)})
FIRST = Map([Family([((1, 0),), ((2, 0),)]), Family([((1, 0),)]), Family([((2, 0),)])])

PACES = (
    (pace.is_rate, {"value": (2, 60)}, True),
    (pace.pace, {"chart": CHART, "lane": 1}, (5, 1)),
    (pace.paces, {"chart": CHART}, [(1, 1), (5, 1)]),
    (pace.by_pace, {"chart": CHART}, [((1, 1), [0]), ((5, 1), [1])]),
    (pace.is_at_most, {"chart": CHART, "lane": 0, "rate": (1, 1)}, True),
    (pace.is_at_least, {"chart": CHART, "lane": 0, "rate": (3, 2)}, False),
    (pace.plan_paper, {"chart": CHART, "lane": 0, "rate": (1, 1)}, pace.plan_paper(CHART, 0, (1, 1))),
    (pace.answer_paper, {"chart": CHART, "lane": 0, "rate": (1, 1)}, pace.answer_paper(CHART, 0, (1, 1))),
    (pace.is_plan_paper, {"chart": CHART, "lane": 0, "rate": (5, 1), "value": PLAN}, True),
    (pace.is_answer_paper, {"chart": CHART, "lane": 0, "rate": (1, 1), "value": ANSWER}, True),
    (pace.most_behind, {"chart": CHART, "lane": 0, "rate": (5, 1), "paper": PLAN, "content": [7, -3], "many": 10}, 57),
    (pace.least_behind, {"chart": CHART, "lane": 0, "rate": (1, 1), "paper": ANSWER, "content": [7, -3], "many": 10},
     6),
    (plans.plan_map, {"chart": CHART, "plan": [((1, 0),), ((1, 5),)]},
     Map([Family([((1, 0),)]), Family([((1, 5),)])])),
    (plans.answer_map, {"chart": CHART, "answer": [[0, 1], [1]]}, CHART),
    (plans.best_plan, {"chart": CHART}, [((0, 1),), ((1, 5),)]),
    (plans.best_answer, {"chart": SWAP}, [[1], [0]]),
    (plans.is_best_plan, {"chart": CHART, "value": [((0, 1),), ((1, 5),)]}, True),
    (plans.is_best_answer, {"chart": CHART, "value": [[0, 1], [1]]}, True),
    (plans.rings, {"chart": ONE_LOT}, [((0,), (2, 1)), ((0, 1), (2, 1))]),
    (plans.steepest, {"chart": ONE_LOT, "lane": 1}, ((0,), (2, 1))),
)
WALKS = (
    (walks.is_walk, {"chart": CHART, "value": WALK}, True),
    (walks.walk_of, {"chart": CHART}, walks.walk_of(CHART)),
    (walks.step_of, {"chart": SWAP, "walk": ([(1, 2), (1, 2)], [0, 1]), "lane": 1}, 1),
    (walks.walked_to, {"chart": CHART, "walk": WALK, "many": 10}, [10, 51]),
    (walks.plan_from, {"chart": CHART, "walk": WALK, "lane": 0}, {0: (((0, 1),), 0)}),
    (walks.answer_from, {"chart": CHART, "walk": WALK, "lane": 0}, {0: ([0, 1], 0), 1: ([1], 1)}),
    (walks.far_from, {"chart": CHART, "walk": WALK, "content": [7, -3], "many": 1}, (-4, -4)),
    (even.is_even, {"chart": SWAP, "value": ((1, 2), [0, 1])}, True),
    (even.even_of, {"chart": SWAP}, even.even_of(SWAP)),
    (even.is_uneven, {"chart": CHART, "value": UNEVEN}, True),
    (even.uneven_of, {"chart": CHART}, even.uneven_of(CHART)),
    (even.moved_by, {"chart": SWAP, "content": [3, 3]}, None),
    (even.lap_of, {"chart": SWAP, "content": [0, 0]}, (0, 2, 1)),
    (even.least_above, {"chart": FIRST, "number": 0, "content": [0, 9, 9]}, [9, 9, 9]),
    (even.greatest_below, {"chart": FIRST, "number": 0, "content": [9, 0, 5]}, [0, 0, 5]),
)
FUNCTIONS = PACES + WALKS

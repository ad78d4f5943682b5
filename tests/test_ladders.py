"""lanelots.heads: ladders, the papers for heads (point 54)."""

from lanelots.errors import InvalidRow, TooMany
from lanelots.families import Family
from lanelots.heads import heads, is_ladder, ladder
from lanelots.maps import Map
from tests import row_oracle as oracle
from tests.helpers import HUGE, NO_PAPERS, NOT_ROWS_OF_TWO, Case
from tests.test_heads import CHART, FLOOR, MORE, ROWS, SAME, TWO_HUNDRED, tables
from tests.test_maps import drawn_charts

NONE = [None, None]


class Own(Case):
    def test_small_ones(self):
        self.same(ladder(CHART, [5, 3]), [[[None, 3], [3, None]], [[None, 3]]])
        self.same(ladder(chart=CHART, row=(5, None)), [[[None, 3], [3, None]]] * 2)
        self.same([ladder(SAME, NONE), ladder(SAME, [None, 4]), ladder(Map.same(1), [HUGE])],
                  [[[NONE]] * 2, [[NONE], [[None, 4]]], [[[HUGE]]]])

    def test_drawn_ones(self):
        for families, draw in drawn_charts(150, 4, 4):
            chart, row = Map(families), draw.row(len(families), draw.pick((2, 6, HUGE)))
            told = ladder(chart, row)
            self.same([told, ladder(chart, tuple(row))], [oracle.ladder(tables(chart), row)] * 2)
            self.same([told[-1], is_ladder(chart, row, told)], [heads(chart, row), True])
            for lane in range(chart.lanes):
                self.same(told[lane], heads(chart, row[:lane + 1] + [None] * (chart.lanes - lane - 1)))

    def test_lists_of_their_own(self):
        # Lanes without a number have the same ceilings as the lane ahead, but in lists of their own.
        told = ladder(CHART, [5, None])
        told[0][0][0] = "spoiled"
        told[0].pop()
        self.same(told[1], [[None, 3], [3, None]])
        self.same(ladder(CHART, [5, None]), [[[None, 3], [3, None]]] * 2)

    def test_two_hundred_and_more(self):
        own = ladder(-TWO_HUNDRED, FLOOR)
        self.same([[len(rows) for rows in own], is_ladder(-TWO_HUNDRED, FLOOR, own)],
                  [[26, 50, 200, 200, 200, 200], True])
        self.fails(TooMany, ROWS, ladder, -MORE, FLOOR)
        self.fails(TooMany, ROWS, ladder, -MORE, [0, 0, 0, 0, None, None])
        # Judged without a limit.
        many = oracle.ladder(tables(-MORE), FLOOR)
        self.same([len(many[-1]), is_ladder(-MORE, FLOOR, many)], [201, True])
        self.same(is_ladder(-MORE, FLOOR, many[:-1] + [many[-1][1:]]), False)


class Judged(Case):
    def test_ceilings_that_are_not_needed(self):
        first, last = [[None, 3], [3, None]], [[None, 3]]
        for value, wanted in (
            ([first, last], True), ((tuple(map(tuple, first)), (tuple(last[0]),)), True), ([first[::-1], last], True),
            ([first + [[1, 1]], last], True), ([first + first, last + last], True), ([[NONE], last], True),
            ([[NONE], [NONE]], True), ([first, [[None, 4]]], True), ([first, [[None, 3], [-HUGE, -HUGE]]], True),
            ([first[:1], last], False), ([first[1:], last], False), ([first, []], False), ([[], last], False),
            ([first, [[None, 2]]], False), ([first, [[9, 3]]], False), ([[[None, 2], [3, None]], last], False),
            ([first + [[9, 9]], last], True), ([first], False), ([first, last, last], False), (first + last, False),
            ([[], []], False), ([], False), ([[[None, 3], [9, None]], last], True),
        ):
            self.same(is_ladder(CHART, [5, 3], value), wanted)

    def test_what_is_wanted_of_needless_ceilings(self):
        # A ceiling that is not needed wants more of the next list.
        chart = Map([Family([((0, 0),)]), Family([((0, 0),)])])
        self.same(is_ladder(chart, [3, None], [[[3, None]], [[3, None]]]), True)
        self.same(is_ladder(chart, [3, None], [[[3, None], [4, None]], [[3, None]]]), False)
        self.same(is_ladder(chart, [3, None], [[[3, None], [4, None]], [[4, None]]]), True)
        self.same(is_ladder(chart, [3, None], [[[3, None], [None, -5]], [[3, None]]]), False)
        # The lane's number lessens what is not needed, too.
        self.same(is_ladder(chart, [3, 3], [[NONE], [[3, None]]]), True)
        self.same(is_ladder(chart, [3, 2], [[[3, None]], [[3, None]]]), True)
        self.same(is_ladder(chart, [3, 2], [[[3, None]], [[1, None]]]), False)

    def test_of_other_kinds(self):
        first, last = [[None, 3], [3, None]], [[None, 3]]
        for value in NO_PAPERS:
            self.same(is_ladder(CHART, [5, 3], value), False)
            self.same(is_ladder(SAME, NONE, value), False)
            self.same([is_ladder(CHART, [5, 3], [value, last]), is_ladder(CHART, [5, 3], [first, value]),
                       is_ladder(CHART, [5, 3], [first, [value]])], [False, False, repr(value) == "(None, None)"])
        for value in NOT_ROWS_OF_TWO:
            self.same(is_ladder(CHART, [5, 3], [first + [value], last]), False)
            self.same(is_ladder(CHART, [5, 3], [first, last + [value]]), False)
        for value in ([first, [[None, True]]], [first, [[None, 3, None]]], [first, [[3]]], {0: first, 1: last},
                      [first, {0: [None, 3]}], [first, [{0: None, 1: 3}]], [first, last[0]]):
            self.same(is_ladder(CHART, [5, 3], value), False)
        self.same(is_ladder(SAME, [1, None], [[[True, None]], [[1, None]]]), False)

    def test_one_part_otherwise_in_drawn_ones(self):
        seen = {True: 0, False: 0}
        for families, draw in drawn_charts(100, 3, 3):
            chart, row = Map(families), draw.row(len(families), 4)
            own = ladder(chart, row)
            self.same(is_ladder(chart, row, own), True)
            for _ in range(12):
                value = [[list(ceiling) for ceiling in rows] for rows in own]
                rows = draw.pick(value)
                way = draw.below(4)
                if way == 0:
                    rows.append(draw.row(chart.lanes, 5))
                elif way == 1:
                    rows.pop(draw.below(len(rows)))
                else:
                    place, lane = draw.below(len(rows)), draw.below(chart.lanes)
                    number = rows[place][lane]
                    rows[place][lane] = draw.pick((None, 9)) if number is None else number + draw.pick((-1, 1))
                wanted = oracle.is_ladder(tables(chart), row, value)
                seen[wanted] += 1
                self.same(is_ladder(chart, row, value), wanted)
                if wanted:
                    # What is led below lies below some ceiling of the last list.
                    content = draw.content(chart.lanes, 6)
                    if oracle.below(chart(content), row):
                        self.assertTrue(any(oracle.below(content, ceiling) for ceiling in value[-1]))
        self.assertGreater(min(seen.values()), 100, seen)

    def test_wrong_rows(self):
        for value in NOT_ROWS_OF_TWO:
            self.fails(InvalidRow, {"value": value}, ladder, SAME, value)
            self.fails(InvalidRow, {"value": value}, is_ladder, SAME, value, None)

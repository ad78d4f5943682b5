"""lanelots.basics: INTEGERS, COUNTS, contents and rows (points 2 and 5)."""

from lanelots.basics import (
    farthest, is_at_most, is_content, is_count, is_integer, is_row, moved, raised, spread, turned,
)
from lanelots.errors import InvalidContent, InvalidNumber, InvalidOrder, InvalidOther
from tests.helpers import (
    HUGE, NOT_CONTENTS_OF_TWO, NOT_COUNTS, NOT_INTEGERS, NOT_LISTS, NOT_ORDERS_OF_TWO, Case, Draw, drawn_contents,
)

# What is no content of any number of lanes.
NOT_CONTENTS = NOT_LISTS + ([], (), [True], [0, False], [None], (1, None), ["1"], [[1]], [(1,)], [0] * 13, (0,) * 13)


class Kinds(Case):
    def test_example(self):
        self.same([spread([3, -1, 4]), farthest([3, -1, 4], [0, 0, 4]), moved([3, -1, 4], [1, 2, 0])],
                  [5, 3, [4, 3, -1]])

    def test_integers(self):
        for value in (0, 1, -1, 2, HUGE, -HUGE):
            self.same(is_integer(value), True)
        for value in NOT_INTEGERS:
            self.same(is_integer(value), False)

    def test_counts(self):
        for value in (0, 1, 2, HUGE):
            self.same(is_count(value), True)
        for value in NOT_COUNTS:
            self.same(is_count(value), False)

    def test_contents(self):
        for value in ([0], (0,), [3, -1], [5] * 12, (5,) * 12, [HUGE, -HUGE], list(range(12))):
            self.same(is_content(value), True)
        for value in NOT_CONTENTS:
            self.same(is_content(value), False)

    def test_rows(self):
        for value in ([0], (0,), [None], (None,), [3, None, -1], [None] * 12, (5,) * 12, [HUGE, None]):
            self.same(is_row(value), True)
        for value in NOT_LISTS + ([], (), [True], [None, False], ["1"], [[None]], [()], [None] * 13, [0] * 13):
            self.same(is_row(value), False)


class Told(Case):
    def test_spread(self):
        self.same(spread([4]), 0)
        self.same(spread((2, 2, 2)), 0)
        self.same(spread([-5, 3]), 8)
        self.same(spread([HUGE, -HUGE, 0]), 2 * HUGE)
        self.same(spread(list(range(12))), 11)

    def test_farthest(self):
        self.same(farthest([1, 2], (1, 2)), 0)
        self.same(farthest((1, 2), [4, 0]), 3)
        self.same(farthest([1, 0], [2, 9]), 9)
        self.same(farthest([-HUGE], [HUGE]), 2 * HUGE)

    def test_is_at_most(self):
        self.same(is_at_most([1, 2], [1, 2]), True)
        self.same(is_at_most([1, -2], (1, 2)), True)
        self.same(is_at_most((2, 0), [1, 5]), False)
        self.same(is_at_most([0, 6], [1, 5]), False)

    def test_raised(self):
        self.same(raised([1, -2], 0), [1, -2])
        self.same(raised((1, -2), -3), [-2, -5])
        self.same(raised([0] * 12, HUGE), [HUGE] * 12)

    def test_turned(self):
        self.same(turned([1, 0, -2]), [-1, 0, 2])
        self.same(turned((HUGE,)), [-HUGE])

    def test_moved(self):
        self.same(moved([5], [0]), [5])
        self.same(moved((5, 6), (1, 0)), [6, 5])
        self.same(moved([10, 11, 12, 13], [2, 0, 3, 1]), [11, 13, 10, 12])
        self.same(moved([4, 4], [0, 1]), [4, 4])

    def test_drawn_ones_lane_by_lane(self):
        for seed in range(30):
            draw = Draw(seed)
            lanes = 1 + draw.below(12)
            order = draw.order(lanes)
            for content in drawn_contents(draw, lanes):
                other = draw.content(lanes, 5)
                gone = moved(content, order)
                self.assertEqual([gone[order[lane]] for lane in range(lanes)], content)
                self.assertEqual(spread(content), sorted(content)[-1] - sorted(content)[0])
                apart = sorted(abs(content[lane] - other[lane]) for lane in range(lanes))
                self.assertEqual(farthest(content, other), apart[-1])
                self.assertEqual(turned(turned(content)), content)
                self.assertEqual(raised(raised(content, 9), -9), content)
                self.assertTrue(is_at_most(content, raised(content, 1)))
                self.assertFalse(is_at_most(raised(content, 1), content))


class Wrong(Case):
    def test_content(self):
        for value in NOT_CONTENTS:
            self.fails(InvalidContent, {"value": value}, spread, value)
            self.fails(InvalidContent, {"value": value}, turned, value)
            self.fails(InvalidContent, {"value": value}, farthest, value, [1])
            self.fails(InvalidContent, {"value": value}, is_at_most, value, [1])
            self.fails(InvalidContent, {"value": value}, raised, value, 1)
            self.fails(InvalidContent, {"value": value}, moved, value, [0])

    def test_other(self):
        for value in NOT_CONTENTS_OF_TWO:
            self.fails(InvalidOther, {"value": value}, farthest, [1, 2], value)
            self.fails(InvalidOther, {"value": value}, is_at_most, [1, 2], value)

    def test_number(self):
        for value in NOT_INTEGERS:
            self.fails(InvalidNumber, {"value": value}, raised, [1, 2], value)

    def test_order(self):
        for value in NOT_ORDERS_OF_TWO:
            self.fails(InvalidOrder, {"value": value}, moved, [1, 2], value)

    def test_the_content_comes_first(self):
        self.fails(InvalidContent, {"value": [True]}, farthest, [True], None)
        self.fails(InvalidContent, {"value": None}, is_at_most, None, None)
        self.fails(InvalidContent, {"value": []}, raised, [], True)
        self.fails(InvalidContent, {"value": (None, 0)}, moved, (None, 0), [0, 0])

"""lanelots.families: families and co-families, their parts, values and operators, and all errors (points 22 and 23)."""

from lanelots.errors import InvalidContent, InvalidFamily, InvalidLots, InvalidNumber, TooMany
from lanelots.families import CoFamily, Family, lies_below
from lanelots.maps import Map
from tests.helpers import HUGE, LOTS, NOT_FAMILIES, NOT_INTEGERS, NOT_LISTS, NOT_LOTS, Case, antichain

BOTH = (Family, CoFamily)
SIXTY = {"what": "lots", "limit": 60}
TWO_HUNDRED = {"what": "lots", "limit": 200}
MIDDLE = [((0, 0), (1, 0)), ((0, 0), (2, 0)), ((1, 0), (2, 0))]
NOT_CO_FAMILIES = tuple(value for value in NOT_FAMILIES if not isinstance(value, CoFamily)) + (Family([((0, 1),)]),)
NOT_CONTENTS_OF_TWO_AT_LEAST = NOT_LISTS + ([], (), [1], (1,), [True, 0], [0, False], [None, 1], ["1", 2], [[1], 2],
                                            [0] * 13)


class Made(Case):
    def test_example(self):
        middle = Family([((0, 0), (1, 0)), ((0, 0), (2, 0)), ((1, 0), (2, 0))])
        self.same([middle([7, 1, 4]), ~middle == CoFamily(middle.lots()), -middle == ~middle,
                   lies_below(middle, Family([((0, 0), (1, 2))]))], [4, True, True, True])
        self.same([Family([((0, 1),)]) | Family([((0, 0), (1, 0)), ((2, 5),)]),
                   ~Family([((0, 1), (1, 0)), ((0, 3), (2, 5))])],
                  [Family([((0, 1), (1, 0)), ((0, 1), (2, 5))]),
                   CoFamily([((0, 1),), ((0, 3), (1, 0)), ((1, 0), (2, 5))])])

    def test_parts(self):
        for kind in BOTH:
            made = kind([((4, 0),), ((0, 3), (2, -1)), ((0, -7), (11, 7))])
            self.same(made.lots(), [((0, -7), (11, 7)), ((0, 3), (2, -1)), ((4, 0),)])
            self.same([made.hung(), len(made)], [[0, 2, 4, 11], 3])
            self.same([kind([((11, 5),)]).hung(), len(kind([((11, 5),)]))], [[11], 1])

    def test_only_those_that_are_a_family(self):
        lots = [((0, 2), (1, 0)), ((0, 2),), ((0, 1), (2, 0)), ((0, 2),), ((0, 1),)]
        self.same(Family(lots).lots(), [((0, 1),)])
        self.same(CoFamily(lots).lots(), [((0, 2),)])
        self.same(CoFamily([((0, 1), (2, 0)), ((0, 0),), ((0, 0),)]).lots(), [((0, 0),), ((0, 1), (2, 0))])
        self.same(Family([((0, -1), (2, 0)), ((0, 0),), ((0, 0),)]).lots(), [((0, -1), (2, 0)), ((0, 0),)])

    def test_lists_and_tuples_in_any_sequence(self):
        for kind in BOTH:
            for lots in (MIDDLE, tuple(MIDDLE), MIDDLE[::-1], MIDDLE[1:] + MIDDLE, tuple(MIDDLE + MIDDLE)):
                self.same(kind(lots), kind(MIDDLE))
                self.same(kind(lots).lots(), MIDDLE)

    def test_every_lot(self):
        for kind in BOTH:
            for lot in LOTS:
                self.same(kind([lot]).lots(), [lot])

    def test_values(self):
        for content, least, greatest in (([7, 1, 4], 4, 4), ([0, 0, 0], 0, 0), ([9, 9, 1], 9, 9),
                                         ((1, 2, 3, 99), 2, 2)):
            self.same([Family(MIDDLE)(content), CoFamily(MIDDLE)(content)], [least, greatest])
        lots = [((0, 3), (1, 0)), ((1, 2),)]
        self.same([Family(lots)([5, 5]), Family(lots)([0, 5]), Family(lots)((9, -9))], [7, 5, -7])
        self.same([CoFamily(lots)([5, 5]), CoFamily(lots)([0, 5]), CoFamily(lots)((9, -9))], [7, 7, -7])
        self.same([Family([((1, HUGE),)])([0, HUGE]), CoFamily([((1, -HUGE),)])([0, -HUGE])], [2 * HUGE, -2 * HUGE])

    def test_equal(self):
        for kind, other_kind in (BOTH, BOTH[::-1]):
            made = kind(MIDDLE)
            self.same([made == kind(tuple(MIDDLE)), made != kind(MIDDLE), made == made], [True, False, True])
            for other in (other_kind(MIDDLE), kind(MIDDLE[:2]), made + 1, kind([((0, 0),)]), MIDDLE, repr(made), None,
                          0, True,
                          Map.same(3)):
                self.same([made == other, other == made, made != other], [False, False, True])

    def test_repr(self):
        self.assertEqual(repr(Family([((1, 0),), ((0, 3),)])), "Family([((0, 3),), ((1, 0),)])")
        self.assertEqual(repr(CoFamily([((1, 0),), ((0, 3),)])), "CoFamily([((0, 3),), ((1, 0),)])")
        self.assertEqual(repr(Family([((0, -HUGE), (11, 1))])), f"Family([((0, {-HUGE}), (11, 1))])")

    def test_in(self):
        for kind in BOTH:
            made = kind([((0, 1), (1, 0)), ((2, 5),)])
            self.same([lot in made for lot in made.lots()], [True, True])
            for lot in LOTS + NOT_LOTS + (((0, 1),), ((0, 1), (1, 1)), ((2, 5), (3, 0)), ((0, True), (1, 0)),
                                          ((0, 1), (1, False)),
                                          ((False, 1), (1, 0)), ((0, 1), (True, 0)), [((2, 5),)], ([2, 5],), [(2, 5)]):
                self.same(lot in made, False)
                self.same(lot not in made, True)

    def test_not_iterated_over(self):
        for kind in BOTH:
            with self.assertRaises(TypeError):
                list(kind(MIDDLE))


class Limits(Case):
    def test_lots(self):
        for kind in BOTH:
            for value in NOT_LISTS + ([], ()):
                self.fails(InvalidLots, {"position": None}, kind, value)
            for value in NOT_LOTS:
                self.fails(InvalidLots, {"position": 0}, kind, [value])
                self.fails(InvalidLots, {"position": 1}, kind, (((0, 0),), value, value))

    def test_sixty_lots(self):
        for kind in BOTH:
            self.same(kind(antichain(60)).lots(), antichain(60))
            self.same(len(kind(antichain(60) * 3)), 60)
            self.fails(TooMany, SIXTY, kind, antichain(61))
            self.fails(TooMany, SIXTY, kind, antichain(200))

    def test_many_that_are_few(self):
        same = [((0, 0),)] * 140
        for kind in BOTH:
            self.same(kind(antichain(60) + antichain(60)[::-1]).lots(), antichain(60))
            self.same(len(kind(same + antichain(59, 1, 2))), 60)
            self.fails(TooMany, SIXTY, kind, same + antichain(60, 1, 2))
        self.same(Family(antichain(199) + [((0, -1),)]).lots(), [((0, -1),)])
        self.same(CoFamily(antichain(199) + [((0, 199),)]).lots(), [((0, 199),)])

    def test_more_than_two_hundred_first(self):
        for kind in BOTH:
            self.fails(TooMany, TWO_HUNDRED, kind, antichain(201))
            self.fails(TooMany, TWO_HUNDRED, kind, [((0, 0),)] * 201)
            self.same(kind([((0, 0),)] * 200).lots(), [((0, 0),)])
            self.fails(InvalidLots, {"position": 300}, kind, antichain(300) + [None])

    def test_contents(self):
        for kind in BOTH:
            for value in NOT_CONTENTS_OF_TWO_AT_LEAST:
                self.fails(InvalidContent, {"value": value}, kind([((0, 0),), ((1, 0),)]), value)
            self.fails(InvalidContent, {"value": (0,) * 11}, kind([((0, 0), (11, 0))]), (0,) * 11)
            self.same(kind([((0, 0), (11, 0))])([3] * 12), 3)
            self.same(kind([((0, 0),)])([3] * 12), 3)


class Operators(Case):
    def test_lesser_and_greater_of_families(self):
        one, other = Family([((0, 1),), ((1, 0),)]), Family([((0, 0), (2, 0)), ((1, 1),)])
        self.same(one & other, Family([((0, 0), (2, 0)), ((0, 1),), ((1, 0),)]))
        self.same(one | other, Family([((0, 1), (2, 0)), ((0, 1), (1, 1)), ((0, 0), (1, 0), (2, 0)), ((1, 1),)]))
        self.same([one & one, one | one, one & (one + 1), one | (one + 1)], [one, one, one, one + 1])

    def test_lesser_and_greater_of_cofamilies(self):
        one, other = CoFamily([((0, 1),), ((1, 0),)]), CoFamily([((0, 2), (2, 0)), ((1, 1),)])
        self.same(one | other, CoFamily([((0, 1),), ((0, 2), (2, 0)), ((1, 1),)]))
        self.same(one & other, CoFamily([((0, 1), (2, 0)), ((0, 1), (1, 1)), ((0, 2), (1, 0), (2, 0)), ((1, 0),)]))
        self.same([one & one, one | one, one & (one + 1), one | (one + 1)], [one, one, one, one + 1])

    def test_other_kinds(self):
        for value in NOT_FAMILIES:
            self.fails(InvalidFamily, {"value": value}, lambda: Family(MIDDLE) & value)
            self.fails(InvalidFamily, {"value": value}, lambda: Family(MIDDLE) | value)
        for value in NOT_CO_FAMILIES:
            self.fails(InvalidFamily, {"value": value}, lambda: CoFamily(MIDDLE) & value)
            self.fails(InvalidFamily, {"value": value}, lambda: CoFamily(MIDDLE) | value)

    def test_more(self):
        for kind in BOTH:
            made = kind([((0, 3), (2, -1)), ((1, 0),)])
            self.same(made + 4, kind([((0, 7), (2, 3)), ((1, 4),)]))
            self.same([made + 0, made + 9 + -9, made + -1], [made, made, kind([((0, 2), (2, -2)), ((1, -1),)])])
            self.same((made + HUGE).lots(), [((0, HUGE + 3), (2, HUGE - 1)), ((1, HUGE),)])
            self.same(made + HUGE + -HUGE, made)
            for value in NOT_INTEGERS:
                self.fails(InvalidNumber, {"value": value}, lambda: made + value)

    def test_turned_about(self):
        lots, turned = [((0, 3), (2, -1)), ((1, 0),)], [((0, -3), (2, 1)), ((1, 0),)]
        self.same([-Family(lots), -CoFamily(lots)], [CoFamily(turned), Family(turned)])
        self.same([--Family(lots), --CoFamily(lots)], [Family(lots), CoFamily(lots)])
        self.same((-Family([((0, 1), (1, 0)), ((0, 2),)])).lots(), [((0, -2),), ((0, -1), (1, 0))])

    def test_limit_of_lesser_and_greater(self):
        lone = [((2, 0),)]
        self.same(len(Family(antichain(59)) & Family(lone)), 60)
        self.same(len(CoFamily(antichain(59)) | CoFamily(lone)), 60)
        self.fails(TooMany, SIXTY, lambda: Family(antichain(60)) & Family(lone))
        self.fails(TooMany, SIXTY, lambda: CoFamily(antichain(60)) | CoFamily(lone))
        six, ten = antichain(6, 0, 1), antichain(10, 2, 3)
        self.same(len(Family(six) | Family(ten)), 60)
        self.same(len(CoFamily(six) & CoFamily(ten)), 60)
        # The common lot takes the place of all its joins: sixty and one.
        common = [((4, 0),)]
        self.fails(TooMany, SIXTY, lambda: Family(six + common) | Family(ten + common))
        self.fails(TooMany, SIXTY, lambda: CoFamily(six + common) & CoFamily(ten + common))
        self.fails(TooMany, SIXTY, lambda: Family(antichain(60, 0, 1)) | Family(antichain(60, 2, 3)))
        self.fails(TooMany, SIXTY, lambda: CoFamily(antichain(60, 0, 1)) & CoFamily(antichain(60, 2, 3)))

    def test_only_the_result_counts(self):
        every = Family([tuple((lane, 100) for lane in range(4))])
        self.same(Family(antichain(60)) | every, every)
        self.same(Family(antichain(60)) | Family(antichain(60)), Family(antichain(60)))
        self.same(Family(antichain(60)) & Family([((0, -1),)]), Family([((0, -1),)]))
        self.same(CoFamily(antichain(60)) & CoFamily(antichain(60)), CoFamily(antichain(60)))
        self.same(CoFamily(antichain(60)) | CoFamily([((0, 60),)]), CoFamily([((0, 60),)]))


class AtMost(Case):
    def test_families(self):
        middle = Family(MIDDLE)
        for one, other, wanted in (
            (middle, middle, True), (middle, middle + 1, True), (middle + 1, middle, False),
            (Family([((0, 0),), ((1, 0),), ((2, 0),)]), middle, True),
            (middle, Family([((0, 0), (1, 0), (2, 0))]), True),
            (middle, Family([((0, 0),)]), False), (Family([((0, 0),)]), middle, False),
            (middle, Family([((0, 0), (1, 2))]), True), (middle, Family([((0, 0), (1, -1))]), False),
            (Family([((0, -1),), ((11, 0),)]), Family([((0, 0), (3, 3))]), True),
        ):
            self.same(lies_below(one, other), wanted)

    def test_cofamilies(self):
        middle = CoFamily(MIDDLE)
        for one, other, wanted in (
            (middle, middle, True), (middle, middle + 1, True), (middle + 1, middle, False),
            (middle, CoFamily([((0, 0),), ((1, 0),), ((2, 0),)]), True),
            (CoFamily([((0, 0), (1, 0), (2, 0))]), middle, True),
            (middle, CoFamily([((0, 0),)]), False), (CoFamily([((0, 0),)]), middle, False),
            (CoFamily([((0, 0), (1, -2))]), middle, True), (CoFamily([((0, 0), (1, 1))]), middle, False),
            (CoFamily([((0, 0), (3, 3))]), CoFamily([((0, 1),), ((11, 0),)]), True),
        ):
            self.same(lies_below(one, other), wanted)

    def test_wrong_ones(self):
        family, co_family = Family(MIDDLE), CoFamily(MIDDLE)
        for value in NOT_FAMILIES:
            self.fails(InvalidFamily, {"value": value}, lies_below, family, value)
            if not isinstance(value, CoFamily):
                self.fails(InvalidFamily, {"value": value}, lies_below, value, family)
                self.fails(InvalidFamily, {"value": value}, lies_below, value, co_family)
                self.fails(InvalidFamily, {"value": value}, lies_below, value, None)
        for value in NOT_CO_FAMILIES:
            self.fails(InvalidFamily, {"value": value}, lies_below, co_family, value)

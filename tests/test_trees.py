"""lanelots.cofamilies: trees from families to co-families (point 29)."""

from lanelots.cofamilies import above, is_tree, tree
from lanelots.errors import TooMany
from lanelots.families import CoFamily, Family, lies_below
from tests import lot_oracle as oracle
from tests.helpers import HUGE, NO_PAPERS, NOT_LOTS, Case, Draw, drawn_families

THOUSAND = {"what": "nodes", "limit": 1000}
TWO, LONE = ((0, 0), (1, 0)), ((2, 0),)
ENDS = {0: ("end", ((0, 0),)), 1: ("end", ((1, 0),)), 2: ("end", ((2, 0),))}
ONE, OTHER = Family([TWO, LONE]), CoFamily([((0, 0),), ((1, 0),), ((2, 0),)])
# The nodes of a tree that asks lots of so many lanes one behind another, the last one of nine.
SIZES = {1000: (3, 4, 2, 4), 1001: (4, 3, 2, 4)}


def late(sizes):
    """A family whose last lot alone leads to the co-lots of a co-family, behind lots of so many lanes."""
    lots = [tuple((lane, (place, -place, 0, 0)[lane]) for lane in range(size)) for place, size in enumerate(sizes)]
    last = tuple((lane, -100) for lane in range(1, 10))
    return Family(lots + [last]), CoFamily([(part,) for part in last]), last


def grown(nodes, gone=None):
    """A tree from ONE to OTHER of just so many nodes, as flat as can be."""
    if nodes == 1:
        return ENDS[gone]
    if nodes == 2:
        return ("ask", LONE, {2: ENDS[2]})
    half = (nodes - 1) // 2
    return ("ask", TWO, {0: grown(half, 0), 1: grown(nodes - 1 - half, 1)})


def chain(asks):
    """A tree from ONE to OTHER that asks the same lot again and again."""
    found = ENDS[1]
    for _ in range(asks):
        found = ("ask", TWO, {0: ENDS[0], 1: found})
    return found


def shared(asks):
    """A tree from ONE to OTHER in which both branches of each node are the same value."""
    found = ENDS[2]
    for _ in range(asks):
        found = ("ask", TWO, {0: found, 1: found})
    return ("ask", LONE, {2: found})


def ways(told, way=()):
    """The asked lots on the way to each end."""
    if told[0] == "end":
        return [way]
    return [found for branch in told[2].values() for found in ways(branch, way + (told[1],))]


class Told(Case):
    def test_small_ones(self):
        lot = ((0, 0),)
        self.same(tree(Family([lot]), CoFamily([((0, 1),)])), ("ask", lot, {0: ("end", ((0, 1),))}))
        self.same(tree(Family([lot]), CoFamily([((0, -1),)])), None)
        self.same(tree(Family([lot]), CoFamily([((0, 0), (1, 0))])), None)
        self.same(tree(Family([TWO]), CoFamily([((0, 0),), ((1, 0),)])), ("ask", TWO, {0: ENDS[0], 1: ENDS[1]}))
        self.same(tree(Family([lot, ((1, 0),)]), CoFamily([TWO])),
                  ("ask", lot, {0: ("ask", ((1, 0),), {1: ("end", TWO)})}))
        self.same(tree(Family([((0, 5), (1, 0)), ((0, 6),)]), CoFamily([((0, 5),)])), None)

    def test_drawn_ones(self):
        seen = {True: 0, False: 0}
        for one, other, _ in drawn_families(150, 3, 3):
            for co_family in (~other, ~(one | other), ~one, ~one + 1, ~one + -1, -other):
                told, lies = tree(one, co_family), lies_below(~one, co_family)
                seen[lies] += 1
                self.same([told is not None, above(one, co_family) is None], [lies, lies])
                self.same(is_tree(one, co_family, told), lies)
                if lies:
                    self.assertLessEqual(oracle.nodes_told(told), 1000)
                    self.assertTrue(all(len(set(way)) == len(way) for way in ways(told)))
        self.assertGreater(min(seen.values()), 100)

    def test_a_thousand_nodes(self):
        for nodes, fits in ((1000, True), (1000, False), (1001, True), (1001, False)):
            one, other, last = late(SIZES[nodes])
            self.assertEqual(len(one), len(SIZES[nodes]) + 1)
            if not fits:
                other = CoFamily([((11, 0),)])
            self.assertEqual(oracle.nodes(one.lots(), other.lots()), nodes)
            if nodes > 1000:
                self.fails(TooMany, THOUSAND, tree, one, other)
            elif fits:
                self.same(oracle.nodes_told(tree(one, other)), 1000)
                self.same(is_tree(one, other, tree(one, other)), True)
            else:
                self.same(tree(one, other), None)
            # A shorter tree does not count.
            short = ("ask", last, {lane: ("end", ((lane, -100),)) for lane, _ in last})
            self.same(is_tree(one, other, short), fits)

    def test_many_more_nodes(self):
        pairs = Family([((lane, 0), (lane + 6, 0)) for lane in range(6)] + [((0, 50), (1, 50), (2, 50))])
        wide = Family([tuple((lane, place if lane == 0 else -place) for lane in range(12)) for place in range(60)])
        for one, other in ((wide, CoFamily([((0, -1),)])), (wide, ~pairs_of(3)), (late((4, 4, 4, 4, 4))[:2])):
            self.fails(TooMany, THOUSAND, tree, one, other)
        self.same(tree(pairs, CoFamily([(part,) for part in pairs.lots()[0]])),
                  ("ask", pairs.lots()[0], {lane: ("end", ((lane, 0),)) for lane in (0, 6)}))

    def test_nodes_of_drawn_ones(self):
        seen = {True: 0, False: 0}
        for seed in range(120):
            draw = Draw(seed)
            one = draw.family(5 + draw.below(4), 7, 2)
            other = CoFamily(draw.lots(5, 7, 2) + [((draw.below(7), 1),)])
            many = oracle.nodes(one.lots(), other.lots())
            seen[many > 1000] += 1
            if many > 1000:
                self.fails(TooMany, THOUSAND, tree, one, other)
            else:
                self.same(tree(one, other) is not None, lies_below(~one, other))
        self.assertGreater(min(seen.values()), 10, seen)

    def test_sixty_lots_one_behind_another(self):
        # All lots have lane 0, which leads to an end at once, and lane 1, behind which the next one is asked.
        lots = [((0, number), (1, -number)) for number in range(60)]
        other = CoFamily([((0, 100),), ((1, -59),)])
        told = tree(Family(lots), other)
        self.same([oracle.nodes_told(told), is_tree(Family(lots), other, told)], [121, True])
        self.same(tree(Family(lots), CoFamily([((0, 100),), ((1, -60),)])), None)


def pairs_of(many):
    return Family([((lane, 0), (lane + 6, 0)) for lane in range(many)])


class Judged(Case):
    def test_asked_again_and_gone_on(self):
        for value in (("ask", TWO, {0: ENDS[0], 1: ENDS[1]}), ("ask", LONE, {2: ENDS[2]}),
                      ("ask", LONE, {2: ("ask", LONE, {2: ENDS[2]})}),
                      ("ask", LONE, {2: ("ask", TWO, {0: ENDS[0], 1: ENDS[2]})}),
                      ("ask", TWO, {1: ENDS[1], 0: ENDS[0]}),
                      ("ask", TWO, {0: ENDS[0], 1: ("ask", TWO, {0: ENDS[1], 1: ENDS[1]})})):
            self.same(is_tree(ONE, OTHER, value), True)

    def test_wrong_ones(self):
        for value in (
            ENDS[0], ENDS[2], ("end",), ["ask", LONE, {2: ENDS[2]}], ("Ask", LONE, {2: ENDS[2]}),
            (None, LONE, {2: ENDS[2]}),
            (b"ask", LONE, {2: ENDS[2]}), ("ask", LONE), ("ask", LONE, {2: ENDS[2]}, 0), ("ask", [LONE], {2: ENDS[2]}),
            ("end", LONE, {2: ENDS[2]}), ("ask", list(LONE), {2: ENDS[2]}), ("ask", ((2, False),), {2: ENDS[2]}),
            ("ask", ((2, 1),), {2: ENDS[2]}), ("ask", ((0, 0),), {0: ENDS[0]}), ("ask", LONE, {}),
            ("ask", LONE, [ENDS[2]]),
            ("ask", LONE, {2: ENDS[2], 0: ENDS[0]}), ("ask", LONE, {0: ENDS[2]}), ("ask", LONE, {2: None}),
            ("ask", LONE, {2: ENDS}),
            ("ask", LONE, {2: ENDS[0]}), ("ask", LONE, {2: ("end", LONE, 0)}), ("ask", LONE, {2: ("end", [(2, 0)])}),
            ("ask", LONE, {2: ["end", LONE]}), ("ask", LONE, {2: ("ask", LONE, {2: ENDS[1]})}),
            ("ask", LONE, {2: ("end", ((2, 1),))}),
            ("ask", LONE, {2: ("end", ((2, False),))}), ("ask", LONE, {2: ("ask", LONE)}),
            ("ask", LONE, {2: ("and", LONE)}),
            ("ask", TWO, {0: ENDS[0]}), ("ask", TWO, {1: ENDS[1]}), ("ask", TWO, {0: ENDS[1], 1: ENDS[0]}),
            ("ask", TWO, {0: ENDS[0], 1: ENDS[0]}), ("ask", TWO, {0: ENDS[0], True: ENDS[1]}),
            ("ask", TWO, {False: ENDS[0], 1: ENDS[1]}), ("ask", TWO, {0: ENDS[0], "1": ENDS[1]}),
            ("ask", TWO, {0: ENDS[0], 1: ENDS[1], 2: ENDS[2]}), ("ask", TWO, {0: ENDS[0], 2: ENDS[2]}),
            ("ask", TWO, ((0, ENDS[0]), (1, ENDS[1]))), ("ask", TWO, {0: ENDS[0], 1: ("ask", TWO, {0: ENDS[0]})}),
        ):
            self.same(is_tree(ONE, OTHER, value), False)

    def test_numbers_that_were_gone(self):
        one = Family([((0, 3), (1, 0)), ((0, 4), (2, 0))])
        first, second = one.lots()
        for number, wanted in ((2, False), (3, True), (4, True), (-HUGE, False), (HUGE, True)):
            other = CoFamily([((0, number),), ((1, 0),)])
            end = ("end", ((0, number),))
            self.same(is_tree(one, other, ("ask", first, {0: end, 1: ("end", ((1, 0),))})), wanted)
            self.same(is_tree(one, other, ("ask", second, {0: end, 2: end})), False)
            # The lesser number stays, whichever was gone first.
            again = ("ask", second, {0: ("ask", first, {0: end, 1: ("end", ((1, 0),))}),
                                     2: ("ask", first, {0: end, 1: ("end", ((1, 0),))})})
            self.same(is_tree(one, other, again), wanted)
            lower = ("ask", first, {0: ("ask", second, {0: end, 2: end}), 1: ("end", ((1, 0),))})
            self.same(is_tree(one, other, lower), wanted)

    def test_all_lanes_of_a_co_lot(self):
        one, other = Family([((0, 0),), ((1, 0),)]), CoFamily([((0, 0), (1, 0))])
        end = ("end", ((0, 0), (1, 0)))
        self.same(is_tree(one, other, ("ask", ((0, 0),), {0: end})), False)
        self.same(is_tree(one, other, ("ask", ((0, 0),), {0: ("ask", ((1, 0),), {1: end})})), True)
        self.same(is_tree(one, other, ("ask", ((1, 0),), {1: ("ask", ((0, 0),), {0: end})})), True)
        # What was gone on another way does not count.
        two = Family([((0, 0), (2, 0)), ((1, 0),)])
        self.same(is_tree(two, CoFamily([((0, 0), (1, 0)), ((2, 0),)]), ("ask", ((1, 0),), {1: ("ask", two.lots()[0], {
            0: end, 2: end})})), False)

    def test_four_thousand_nodes(self):
        for nodes in (3, 4, 5, 100, 999, 1000, 1001, 2500, 3999, 4000):
            self.assertEqual(oracle.nodes_told(grown(nodes)), nodes)
            self.same(is_tree(ONE, OTHER, grown(nodes)), True)
        for nodes in (4001, 4002, 5000, 20000):
            self.assertEqual(oracle.nodes_told(grown(nodes)), nodes)
            self.same(is_tree(ONE, OTHER, grown(nodes)), False)

    def test_each_way_is_counted(self):
        for asks, wanted in ((0, True), (5, True), (10, True), (11, False), (12, False), (60, False)):
            self.same(is_tree(ONE, OTHER, shared(asks)), wanted)

    def test_nested_deep(self):
        for asks in (1, 2, 60, 63, 64, 65, 129, 130):
            self.same(is_tree(ONE, OTHER, chain(asks)), True)
            self.same(is_tree(ONE, CoFamily([((0, 0),), ((2, 0),)]), chain(asks)), False)
        nested = None
        for _ in range(130):
            nested = (nested,)
        self.same(is_tree(ONE, OTHER, nested), False)
        for _ in range(32):
            nested = ("ask", LONE, {2: nested})
        self.same(is_tree(ONE, OTHER, nested), False)

    def test_any_value(self):
        for value in NO_PAPERS + NOT_LOTS:
            self.same(is_tree(ONE, OTHER, value), False)
            self.same(is_tree(Family([((0, 0),)]), CoFamily([((0, 0),)]), value), False)
            self.same(is_tree(ONE, OTHER, ("ask", value, {2: ENDS[2]})), value == LONE)
            self.same(is_tree(ONE, OTHER, ("ask", LONE, {2: ("end", value)})), False)
            self.same(is_tree(ONE, OTHER, ("ask", LONE, {2: value})), False)
            self.same(is_tree(ONE, OTHER, ("ask", LONE, value)), False)
            self.same(is_tree(ONE, OTHER, (value, LONE, {2: ENDS[2]})), False)

    def test_one_part_otherwise_in_drawn_ones(self):
        for one, other, _ in drawn_families(60, 3, 3):
            co_family = ~(one | other)
            told = tree(one, co_family)
            for lot in one.lots():
                first = ("ask", lot, {lane: told for lane, _ in lot})
                self.same(is_tree(one, co_family, first), True)
                for lane, _ in lot:
                    self.same(is_tree(one, co_family, ("ask", lot, {**first[2], lane: None})), False)
            for lot in co_family.lots():
                self.same(is_tree(one, co_family, ("end", lot)), False)

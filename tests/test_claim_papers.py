"""lanelots.claims: which values are papers of claims, line by line of the table, by plain looking (point 93)."""

from lanelots.claims import is_paper, is_true, paper_of
from lanelots.cofamilies import is_parting, is_saddle, is_unders
from lanelots.families import Family
from lanelots.gaps import is_above, is_at_most, is_slip
from lanelots.maps import Map
from lanelots.nets import Net
from lanelots.plainrounds import comes, is_lap, is_settling, ranks
from lanelots.runs import are_exchanges, is_unlike_lane
from lanelots.sources import is_nowhere, is_source
from lanelots.spans import Spans, is_ring
from lanelots.told import is_steps, steps_of
from tests import lot_oracle, oracle, pace_oracle
from tests.claim_things import CONTRARIES, TRUE_PARTS, UNTRUE_PARTS, drawn_claims
from tests.helpers import HUGE, NO_PAPERS, Case

LOW, TWICE = Net(2, [("low", 0, 1)]), Net(2, [("low", 0, 1), ("low", 0, 1)])
ONE, TWO, BOTH = ((0, 0),), ((1, 0),), ((0, 0), (1, 0))
LOW_STEPS = [[[ONE], [TWO]], [[ONE, TWO], [TWO]]]
TWICE_STEPS = LOW_STEPS + [LOW_STEPS[1]]
HELD = Spans(2, [(0, 1, 3)])
FAST = TRUE_PARTS["paced"][0]


def is_content(value, lanes):
    return isinstance(value, (list, tuple)) and len(value) == lanes and all(type(part) is int for part in value)


def as_lists(value):
    """How the value looks with lists in the place of its tuples."""
    return repr(value).replace("(", "[").replace(",)", "]").replace(")", "]")


def is_pair(value):
    return isinstance(value, tuple) and len(value) == 2


def under_one_another(ones, others):
    return all(any(lot_oracle.is_under(one, other) for one in ones) for other in others)


def is_paper_by_looking(word, parts, value):
    """What the last two columns of the table tell."""
    judges = {"below": is_unders, "over": is_parting, "shuffled": are_exchanges, "sorted": is_unlike_lane,
              "empty": is_ring, "within": is_at_most, "beyond": is_above, "reached": is_source, "barred": is_nowhere}
    if word in judges:
        return judges[word](*parts, value)
    if word in ("tells", "misses"):
        return is_saddle(*parts[:2], value) and (value[0] == parts[2]) == (word == "tells")
    if word == "alike":
        if not is_pair(value) or not is_steps(parts[0], value[0]) or not is_steps(parts[1], value[1]):
            return False
        ends = zip(value[0][-1], value[1][-1])
        return all(under_one_another(*pair) and under_one_another(*pair[::-1]) for pair in ends)
    if word == "free":
        return is_steps(parts[0], value) and not any(parts[2] in dict(lot) for lot in value[-1][parts[1]])
    if word in ("unlike", "hangs"):
        return is_content_paper_by_looking(word, parts, value)
    if word == "fits":
        return value in parts[0]
    return is_map_paper_by_looking(word, parts, value)


def is_content_paper_by_looking(word, parts, value):
    lanes = parts[0].lanes
    if not is_pair(value) or not is_content(value[1], lanes):
        return False
    if word == "unlike":
        if type(value[0]) is not int or not 0 <= value[0] < lanes:
            return False
        return oracle.told(parts[0].gates(), value[1])[value[0]] != oracle.told(parts[1].gates(), value[1])[value[0]]
    if not is_content(value[0], lanes):
        return False
    ends = [oracle.told(parts[0].gates(), content)[parts[1]] for content in value]
    return [at for at in range(lanes) if value[0][at] != value[1][at]] == [parts[2]] and ends[0] != ends[1]


def is_map_paper_by_looking(word, parts, value):
    if word == "kept":
        told = parts[0].differences()
        return isinstance(value, (list, tuple)) and len(value) == len(told) and all(
            is_at_most(parts[0], parts[1][i], parts[1][j], d, paper) for (i, j, d), paper in zip(told, value))
    if word == "broken":
        return is_slip(parts[0], parts[1], parts[0], value)
    if word == "settles":
        return is_settling(parts[0], comes(parts[0])[0], value)
    if word == "laps":
        return is_lap(parts[0], value) and len(value) >= 2
    return is_pace_paper_by_looking(word, parts, value)


def is_pace_paper_by_looking(word, parts, value):
    """Of papers whose form is right, as they are told."""
    tables = pace_oracle.tables(parts[0])
    if word == "paced":
        return isinstance(value, dict) and pace_oracle.is_plan_paper(tables, *parts[1:], value)
    if not isinstance(value, tuple):
        return False
    if word == "faster":
        (p, q), answer = value
        return p * parts[2][1] > parts[2][0] * q and pace_oracle.is_answer_paper(tables, parts[1], (p, q), answer)
    if word == "even":
        (p, q), content = value
        return pace_oracle.told(tables, content, q) == [number + p for number in content]
    slow, (p, q), plan, fast, (r, s), answer = value
    return (p * s < r * q and pace_oracle.is_plan_paper(tables, slow, (p, q), plan)
            and pace_oracle.is_answer_paper(tables, fast, (r, s), answer))


class Judged(Case):
    def judged(self, word, parts, rights, wrongs):
        claim = (word, *parts)
        for value in rights:
            self.same([is_paper(claim, value), is_paper(claim=claim, value=value)], [True, True])
        for value in wrongs:
            self.same(is_paper(claim, value), False)
        for value in NO_PAPERS:
            if as_lists(value) not in [as_lists(right) for right in rights]:
                self.same(is_paper(claim, value), False)

    def test_told_ones_by_looking(self):
        seen = {}
        for word, parts, wanted in drawn_claims(40):
            true = word if wanted else CONTRARIES[word]
            paper = paper_of((true, *parts))
            self.same([is_paper((true, *parts), paper), is_paper_by_looking(true, parts, paper)], [True, True])
            # What is no paper of any claim, and papers of all other lines.
            for value in NO_PAPERS[:30]:
                self.same(is_paper((CONTRARIES[true], *parts), value), False)
            seen[true] = seen.get(true, 0) + 1
        self.assertEqual(len(seen), 24)

    def test_papers_of_other_things(self):
        """A paper of one claim judged for other parts of the same line: as the last two columns tell."""
        papers, seen = {}, {True: 0, False: 0}
        for word, parts, wanted in drawn_claims(40):
            true = word if wanted else CONTRARIES[word]
            if true not in ("paced", "faster", "even", "uneven"):
                for paper in papers.get(true, [])[-12:]:
                    for own in (true, CONTRARIES[true]):
                        told = is_paper_by_looking(own, parts, paper)
                        self.same(is_paper((own, *parts), paper), told)
                        seen[told] += 1
                        self.assertTrue(not told or is_true((own, *parts)))
            papers.setdefault(true, []).append(paper_of((true, *parts)))
        self.assertGreater(min(seen.values()), 100, seen)

    def test_families(self):
        self.judged("below", TRUE_PARTS["below"], [{((0, 1), (1, 5)): ((0, 0),)}],
                    [{((0, 1), (1, 5)): ((0, 1),)}, {}, {((0, 0),): ((0, 0),)}, [((0, 0),)]])
        self.judged("over", UNTRUE_PARTS["below"], [[1, -5], (1, -5), [9, -5, 0]], [[0, -5], [1, -4], [1], [1, True]])
        # x0 + 1 and x1: at 4 and 2 the lesser one is 2.
        family, content, _ = TRUE_PARTS["tells"]
        saddle = (2, ((1, 0),), {((0, 1),): 0, ((1, 0),): 1})
        wrong = ((3, *saddle[1:]), (2, ((0, 1),), saddle[2]), (*saddle[:2], {((0, 1),): 0}), [*saddle],
                 (True, *saddle[1:]))
        self.judged("tells", (family, content, 2), [saddle, (2, ((1, 0),), dict(reversed(saddle[2].items())))], wrong)
        for number in (3, 1, -HUGE):
            self.judged("misses", (family, content, number), [saddle], wrong)
            self.same(is_paper(("tells", family, content, number), saddle), False)
        self.same(is_paper(("misses", family, content, 2), saddle), False)

    def test_shuffles(self):
        self.judged("shuffled", TRUE_PARTS["shuffled"], [[0], (0,), [0, 0, 0]], [[1], [False], [0, 0], ["0"], 0])
        self.judged("sorted", UNTRUE_PARTS["shuffled"], [0], [1, 2, -1, None, [0], "0"])
        self.same([is_paper(("sorted", *UNTRUE_PARTS["shuffled"]), False), is_paper(("sorted", LOW, Net(2)), True)],
                  [False, False])

    def test_alike_nets(self):
        more = [[[ONE], [TWO]], [[ONE, TWO, TWO], [TWO]]]
        needless = TWICE_STEPS[:2] + [[[TWO, ONE, ONE], [TWO]]]
        wrong = ((TWICE_STEPS,), (TWICE_STEPS, LOW_STEPS, 0), [TWICE_STEPS, LOW_STEPS], (LOW_STEPS, TWICE_STEPS),
                 (TWICE_STEPS, TWICE_STEPS), (TWICE_STEPS, LOW_STEPS[:1]), (TWICE_STEPS, None), (None, LOW_STEPS),
                 (TWICE_STEPS, [LOW_STEPS[0], [[ONE], [TWO]]]), (TWICE_STEPS, [LOW_STEPS[0], [[ONE, BOTH], [TWO]]]))
        self.judged("alike", TRUE_PARTS["alike"], [
            (TWICE_STEPS, LOW_STEPS), (TWICE_STEPS, more), (needless, more),
            (tuple(TWICE_STEPS), (((ONE,), (TWO,)), ((ONE, TWO), (TWO,))))], wrong)
        # Right steps of both nets, that end otherwise: no paper, neither one way nor the other.
        for one, other in ((LOW, Net(2)), (Net(2), LOW), (Net(2), Net(2, [("add", 0, 1)])), (LOW, -LOW)):
            self.same(is_paper(("alike", one, other), (steps_of(one), steps_of(other))), False)

    def test_unlike_nets(self):
        nets = UNTRUE_PARTS["alike"]
        self.judged("unlike", nets, [(0, [0, 0]), (0, (5, -5))],
                    [(1, [0, 0]), (0, [0]), (0, [0, 0, 0]), [0, [0, 0]], (False, [0, 0]), (0, [0, True]), (2, [0, 0]),
                     (-1, [0, 0]), (0, None), (None, [0, 0]), (0, [0, 0], 0), ("0", [0, 0])])
        other = (LOW, Net(2, [("high", 0, 1)]))
        self.judged("unlike", other, [(0, [1, 0]), (0, [0, 1])], [(0, [1, 1]), (1, [1, 0])])

    def test_lanes_that_hang(self):
        self.judged("hangs", TRUE_PARTS["hangs"], [([3, 0], [3, 1]), ((3, 1), [3, 0]), ([3, 2], [3, 9])],
                    [([3, 0], [3, 0]), ([3, 3], [3, 4]), ([3, 0], [4, 0]), ([3, 0], [4, 1]), [[3, 0], [3, 1]],
                     ([3, 0],), ([3], [2]), ([3, 0, 0], [3, 1, 0]), ([3, 0], [3, True]), ([3, 0], None), (None, [3, 1]),
                     ([3, 0], [3, 1], [3, 2])])
        self.judged("free", UNTRUE_PARTS["hangs"], [LOW_STEPS, tuple(LOW_STEPS)],
                    [TWICE_STEPS, LOW_STEPS[:1], LOW_STEPS[1:]])
        # Lots that are not needed may stand in steps, but they must not have the lane.
        net = Net(2, [("high", 0, 1), ("low", 0, 1)])
        steps = [[[ONE], [TWO]], [[BOTH], [TWO]], [[TWO], [TWO]]]
        self.judged("free", (net, 0, 0), [steps], [steps[:2] + [[[BOTH, TWO], [TWO]]]])
        self.same(is_steps(net, steps[:2] + [[[BOTH, TWO], [TWO]]]), True)

    def test_spans(self):
        self.judged("fits", TRUE_PARTS["fits"], [[0, 0], (3, 0), [-HUGE, HUGE], [1, 2]],
                    [[4, 0], [0], [0, 0, 0], [0, False], None])
        self.judged("empty", UNTRUE_PARTS["fits"], [[0, 1], (1, 0)], [[0], [0, 1, 0], [False, True], [0, 2], "01"])
        within, beyond = TRUE_PARTS["within"], UNTRUE_PARTS["within"]
        paper = [(((0, 0),), [[0, 1]])]
        self.judged("within", within, [paper, ((((0, 0),), ((0, 1),)),)],
                    [[], paper * 2, [(((0, 0),), [[0]])], [(((0, 0),), [[1, 0]])], [(((0, 1),), [[0, 1]])]])
        self.judged("beyond", beyond, [[3, 0], (9, 6)], [[2, 0], [4, 0], [3], [3, None]])
        self.same([is_paper(("within", *beyond), paper), is_paper(("beyond", *within), [3, 0])], [False, False])

    def test_kept_spans(self):
        held, chart = Spans(2, [(0, 1, 3), (1, 0, 2)]), Map([Family([BOTH]), Family([TWO])])
        first, second = [(BOTH, [[0, 1], [1]])], [(TWO, [[1]])]
        self.judged("kept", (held, chart), [[first, second], (tuple(first), second)],
                    [[second, first], [first], [first, second, second], [first, None], [[], second],
                     {0: first, 1: second},
                     [first, [(TWO, [[0]])]], [first, second + second]])
        self.judged("kept", (Spans(2), chart), [[], ()], [[first], None, 0])
        self.judged("broken", UNTRUE_PARTS["kept"], [[3, 0], (2 + HUGE, HUGE - 1)], [[2, 0], [4, 0], [3], [3, True]])

    def test_sources(self):
        self.judged("reached", TRUE_PARTS["reached"], [[3, 3], (9, 3)], [[2, 3], [3, 4], [3], [3, None]])
        ladder, lanes = [[[None, 4], [4, None]], [[None, 3]]], [0]
        self.judged("barred", UNTRUE_PARTS["reached"], [(ladder, lanes), (tuple(ladder), (0,))],
                    [(ladder, [1]), (ladder, [0, 0]), (ladder[:1], lanes), [ladder, lanes], (ladder, [False])])

    def test_plain_rounds(self):
        least, = TRUE_PARTS["settles"]
        counts = {(0, 0): 0, (0, 1): 1, (1, 0): 0, (1, 1): 0}
        self.judged("settles", (least,), [counts, dict(reversed(counts.items()))],
                    [{**counts, (0, 1): 2}, {**counts, (0, 1): 0}, {**counts, (0, 0): False}, {(0, 0): 0}])
        # The counts are at most the map's own first.
        late = Map([Family([((0, 0),)]), Family([((0, 0),)]), Family([((1, 0),)])])
        told = ranks(late)
        self.same([comes(late), is_paper(("settles", late), told)], [(2, 1), True])
        self.same([is_settling(late, 3, {flags: told[flags] and told[flags] + 1 for flags in told}),
                   is_paper(("settles", late), {flags: told[flags] and told[flags] + 1 for flags in told})],
                  [True, False])
        swap, = UNTRUE_PARTS["settles"]
        self.judged("laps", (swap,), [[(0, 1), (1, 0)], ((1, 0), (0, 1))],
                    [[(0, 0)], [(1, 1)], [(0, 1)], [(0, 1), (1, 0), (0, 1)], [(0, 0), (1, 1)], [[0, 1], [1, 0]]])
        self.same([is_lap(swap, [(0, 0)]), is_paper(("settles", swap), ranks(swap))], [True, False])

    def test_paces(self):
        self.judged("paced", TRUE_PARTS["paced"], [{0: (((0, 1),), 0)}, {0: (((0, 1),), -HUGE)}],
                    [{1: (((1, 5),), 0)}, {0: (((1, 0),), 0)}, {False: (((0, 1),), 0)}])
        answer = {0: ([0, 1], 0), 1: ([1], 1)}
        sixty = {0: ([0, 1], 0), 1: ([1], 60)}
        self.judged("faster", UNTRUE_PARTS["paced"], [((1, 1), answer), ((60, 60), sixty)],
                    [((59, 60), sixty), ((118, 120), sixty), ((58, 60), sixty), ((2, 1), answer), [(1, 1), answer],
                     ((1, 1),), ((1, 1), answer, 0), ([1, 1], answer), ((True, 1), answer), ((1, 1), None),
                     ((1, 1), {1: ([1], 1)}), (None, answer)])
        # A rate that is just as much is not more, in whatever terms.
        self.same([is_paper(("faster", FAST, 0, (1, 2)), ((30, 60), sixty)),
                   is_paper(("faster", FAST, 0, (1, 2)), ((31, 60), sixty)),
                   is_paper(("paced", *UNTRUE_PARTS["paced"]), {0: (((0, 1),), 0)})], [False, True, False])

    def test_even_ones(self):
        self.judged("even", TRUE_PARTS["even"], [((1, 2), [0, 1]), ((1, 2), (7, 8))],
                    [((1, 2), [0, 0]), ((2, 4), [0, 2]), [(1, 2), [0, 1]], ((1, 2), [0])])
        plan, answer = {0: (((0, 1),), 0)}, {1: ([1], 0)}
        self.judged("uneven", UNTRUE_PARTS["even"], [(0, (1, 1), plan, 1, (5, 1), answer),
                                                     (0, (3, 1), plan, 1, (4, 1), {1: ([1], -HUGE)})],
                    [(0, (5, 1), plan, 1, (5, 1), answer), (1, (1, 1), plan, 1, (5, 1), answer),
                     [0, (1, 1), plan, 1, (5, 1), answer], (0, (1, 1), plan, 1, (6, 1), answer)])

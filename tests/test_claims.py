"""lanelots.claims: claims, contrary ones, which is true, and that just the true one has a paper (point 93)."""

import copy

from lanelots.claims import contrary, is_claim, is_paper, is_true, paper_of, things_at
from lanelots.cofamilies import is_unders
from lanelots.errors import InvalidClaim
from lanelots.families import CoFamily, Family
from lanelots.maps import Map
from lanelots.nets import Net
from lanelots.runs import exchanges
from lanelots.spans import Spans
from tests.claim_things import CONTRARIES, KINDS, TABLE, TRUE_PARTS, UNTRUE_PARTS, WORDS, drawn_claims
from tests.helpers import HUGE, NO_PAPERS, NOT_CONTENTS_OF_TWO, NOT_INTEGERS, NOT_LANES_OF_TWO, Case
from tests.pace_maps import SEVEN, TOO_SPREAD
from tests.test_heads import FLOOR, MORE
from tests.test_pace import NOT_RATES
from tests.test_tables import NOT_PLAIN
from tests.test_told import TO_MORE, TO_SIXTY

ASKED = (is_true, contrary, paper_of, lambda claim: is_paper(claim, None))
THINGS = {"net": Net(2), "family": Family([((0, 0),)]), "cofamily": CoFamily([((0, 0),)]), "map": Map.same(2),
          "spans": Spans(2)}
NOT_WORDS = (None, True, 0, 1, "", "Below", "below ", "under", "is", b"below", ("below",), ["below"], {"below": 1}, [],
             (), "alike\n", "net", "fits, empty", "holds", object())
STILL = Map.same(3)
EMPTY = Spans(2, [(0, 1, -1), (1, 0, 0)])
LONG = [("add", 0, 1)] * 40 + [("add", 1, 1)] * 26
# What the function of the second column raises an error for.
FAILING = (
    ("tells", (Family([((2, 0),)]), [0, 0], 0)), ("tells", (Family([((0, 0),)]), [0] * 13, 0)),
    ("tells", (Family([((0, 0),)]), (), 0)),
    ("shuffled", (Net(2), Net(3))), ("alike", (Net(2), Net(3))),
    ("shuffled", (Net(2, LONG), Net(2, LONG[40:] + LONG[:40]))),
    ("alike", (Net(12, TO_MORE), Net(12))), ("alike", (Net(12), Net(12, TO_MORE))),
    ("hangs", (Net(2), 2, 0)), ("hangs", (Net(2), 0, 2)), ("hangs", (Net(2), -1, 0)),
    ("hangs", (Net(12, TO_MORE), 0, 1)),
    ("within", (Spans(1), Family([((1, 0),)]), Family([((0, 0),)]), 0)),
    ("within", (Spans(1), Family([((0, 0),)]), Family([((0, 0), (1, 0))]), 0)),
    ("within", (EMPTY, Family([((0, 0),)]), Family([((1, 0),)]), 0)),
    ("kept", (Spans(3), Map.same(2))), ("kept", (Spans(2), STILL)), ("kept", (EMPTY, Map.same(2))),
    ("reached", (STILL, [0, 0], [0, 0, 0])), ("reached", (STILL, [0] * 3, [0] * 4)),
    ("reached", (-MORE, [None] * 6, FLOOR)),
    ("settles", (NOT_PLAIN,)), ("settles", (SEVEN,)), ("settles", (Map([Family([((0, 1),)])]),)),
    ("paced", (SEVEN, 0, (0, 1))), ("paced", (TOO_SPREAD, 0, (0, 1))), ("paced", (STILL, 3, (0, 1))),
    ("paced", (STILL, 0, (0, 61))), ("paced", (STILL, 0, (0, 0))),
    ("even", (SEVEN,)), ("even", (TOO_SPREAD,)),
)
# What is right beside these.
BESIDE = (
    ("tells", (Family([((2, 0),)]), [0, 0, 7], 0)), ("tells", (Family([((0, 0),)]), (1,) * 12, 1)),
    ("shuffled", (Net(2, LONG[:-1]), Net(2, LONG[40:-1] + LONG[:40]))),
    ("alike", (Net(12, TO_SIXTY), Net(12, TO_SIXTY))),
    ("hangs", (Net(2), 1, 1)), ("hangs", (Net(12, TO_SIXTY), 11, 2)),
    ("within", (Spans(2), Family([((1, 0),)]), Family([((0, 0),)]), -HUGE)), ("kept", (Spans(3), STILL)),
    ("kept", (Spans(1), Map.same(1))), ("reached", (MORE, [None] * 6, FLOOR)),
    ("reached", (STILL, (None,) * 3, [None] * 3)),
    ("settles", (Map.same(6),)), ("paced", (Map.same(6), 5, (HUGE, 60))), ("even", (Map.same(6),)),
    ("fits", (EMPTY,)), ("below", (Family([((0, 0),)]), Family([((11, 0),)]))),
)


class Told(Case):
    def test_examples(self):
        one, two = Family([((0, 0),)]), Family([((0, 1),), ((1, 5),)])
        held = Spans(2, [(0, 1, -5), (1, 0, 4)])
        self.same([is_true(("below", one, two)), paper_of(("over", one, two)), contrary(("fits", held)),
                   is_paper(("empty", held), [0, 1])],
                  [False, [1, -5], ("empty", Spans(2, [(0, 1, -5), (1, 0, 4)])), True])

    def test_just_one_of_both_is_true(self):
        seen = {}
        for word, parts, wanted in drawn_claims(50):
            claim, other = (word, *parts), (CONTRARIES[word], *parts)
            self.same([is_claim(claim), is_claim(other)], [True, True])
            self.same([is_true(claim), is_true(other)], [wanted, not wanted])
            self.same([contrary(claim), contrary(other)], [other, claim])
            self.papers(claim, other, wanted)
            seen[word, wanted] = seen.get((word, wanted), 0) + 1
        self.assertTrue(len(seen) == 24 and min(seen.values()) >= 3, seen)

    def papers(self, claim, other, wanted):
        true, untrue = (claim, other) if wanted else (other, claim)
        paper = paper_of(true)
        self.same([paper_of(untrue), paper is None], [None, False])
        self.same([is_paper(true, paper), is_paper(untrue, paper)], [True, False])
        self.same(paper_of(true), paper)
        for value in NO_PAPERS:
            self.assertFalse(is_paper(untrue, value))

    def test_each_line_by_hand(self):
        for one, other, _, _ in TABLE:
            for parts, wanted in ((TRUE_PARTS[one], True), (UNTRUE_PARTS[one], False)):
                claim, contrary_one = (one, *parts), (other, *parts)
                self.same([is_claim(value=claim), is_true(claim=claim), is_true(contrary_one)],
                          [True, wanted, not wanted])
                self.same(contrary(claim=claim), contrary_one)
                self.papers(claim, contrary_one, wanted)

    def test_tuples_in_the_place_of_lists(self):
        for word, parts, wanted in drawn_claims(6):
            claim = (word, *[tuple(part) if isinstance(part, list) else part for part in parts])
            self.same([is_claim(claim), is_true(claim), is_true(contrary(claim))], [True, wanted, not wanted])
            # Parts are told as they were passed.
            self.same(contrary(contrary(claim)), claim)

    def test_numbers_of_thirty_digits(self):
        family = Family([((0, HUGE),), ((1, -HUGE),)])
        self.same([is_true(("tells", family, [HUGE, HUGE], 0)), is_true(("misses", family, [HUGE, HUGE], 1)),
                   is_true(("paced", Map([family + 0 & Family([((0, -HUGE),)])] * 2), 0, (-HUGE, 1)))], [True] * 3)
        held = Spans(2, [(0, 1, HUGE)])
        self.same([is_true(("within", held, Family([((0, 0),)]), Family([((1, HUGE),)]), 0)),
                   is_true(("beyond", held, Family([((0, 0),)]), Family([((1, HUGE),)]), -1))], [True, True])


class Words(Case):
    def test_things_at(self):
        for one, other, kinds, places in TABLE:
            self.same([things_at(one), things_at(other), things_at(word=one)], [places] * 3)
        for value in NOT_WORDS:
            self.fails(InvalidClaim, {"value": value}, things_at, value)

    def test_all_words_are_unlike(self):
        self.assertEqual((len(WORDS), len(set(WORDS))), (24, 24))


class NoClaims(Case):
    def none(self, value):
        self.same(is_claim(value), False)
        for action in ASKED:
            self.fails(InvalidClaim, {"value": value}, action, value)

    def test_values_of_every_kind(self):
        for value in NO_PAPERS + NOT_WORDS + (("below",), ("below", THINGS["family"]), ["fits", Spans(2)], (Spans(2),),
                                              {"fits": Spans(2)}, ("fits", Spans(2), Spans(2)), "fits"):
            self.none(value)
        for word in NOT_WORDS:
            self.none((word, Spans(2)))
            self.none((word,))

    def test_a_part_less_and_one_more(self):
        for word, kinds in KINDS.items():
            parts = TRUE_PARTS.get(word) or TRUE_PARTS[CONTRARIES[word]]
            self.same(is_claim((word, *parts)), True)
            for claim in ((word, *parts[:-1]), (word, *parts, parts[-1]), (word, *parts, None), [word, *parts],
                          (word, parts), (word, list(parts)), (parts[0], word, *parts[1:])):
                self.none(claim)

    def test_things_of_other_kinds(self):
        for word, kinds in KINDS.items():
            parts = TRUE_PARTS.get(word) or TRUE_PARTS[CONTRARIES[word]]
            for place, kind in enumerate(kinds):
                if kind in THINGS:
                    for value in [THINGS[other] for other in THINGS if other != kind] + [None, True, 0, "net", (), []]:
                        self.none((word, *parts[:place], value, *parts[place + 1:]))

    def test_other_parts_of_wrong_kinds(self):
        odd = {"content": NOT_CONTENTS_OF_TWO[:20], "number": NOT_INTEGERS, "lane": NOT_LANES_OF_TWO, "rate": NOT_RATES,
               "row": [value for value in NOT_CONTENTS_OF_TWO if not isinstance(value,
                                                                                (list, tuple)) or None not in value]}
        seen = 0
        for word, kinds in KINDS.items():
            parts = TRUE_PARTS.get(word) or TRUE_PARTS[CONTRARIES[word]]
            for place, kind in enumerate(kinds):
                for value in odd.get(kind, ()):
                    claim = (word, *parts[:place], value, *parts[place + 1:])
                    # A content may have more lanes than a family needs.
                    if word in ("tells", "misses") and repr(value) in ("[1, 2, 3]", "(1, 2, 3)"):
                        self.same(is_claim(claim), True)
                    else:
                        self.none(claim)
                        seen += 1
        self.assertGreater(seen, 200)

    def test_what_the_second_column_raises_an_error_for(self):
        for word, parts in FAILING:
            self.none((word, *parts))
            self.none((CONTRARIES[word], *parts))
        for word, parts in BESIDE:
            self.same([is_claim((word, *parts)), is_claim((CONTRARIES[word], *parts))], [True, True])
            self.assertNotEqual(is_true((word, *parts)), is_true((CONTRARIES[word], *parts)))

    def test_just_a_thousand_exchanges(self):
        nets = Net(2, LONG[:-1]), Net(2, LONG[40:-1] + LONG[:40])
        self.same([len(exchanges(*nets)), len(paper_of(("shuffled", *nets))), is_true(("sorted", *nets))],
                  [1000, 1000, False])


class New(Case):
    def test_lists_in_parts_are_new(self):
        for claim in (("tells", Family([((0, 0),)]), [4], 4), ("reached", Map.same(1), [4], [None])):
            passed = copy.deepcopy(claim)
            told = contrary(claim)
            for part in told:
                if isinstance(part, list):
                    part.append("spoiled")
            self.same(claim, passed)
            self.same(contrary(claim), contrary(passed))
        rows = (4,), [None]
        self.same(contrary(("barred", Map.same(1), *rows)), ("reached", Map.same(1), (4,), [None]))

    def test_papers_are_new(self):
        for one, other, _, _ in TABLE:
            for word, parts in ((one, TRUE_PARTS[one]), (other, UNTRUE_PARTS[one])):
                again, paper = paper_of((word, *parts)), paper_of((word, *parts))
                while isinstance(paper, tuple) and any(isinstance(part, (list, dict)) for part in paper):
                    paper = [part for part in paper if isinstance(part, (list, dict))][0]
                if isinstance(paper, (list, dict)):
                    paper.clear()
                self.same(paper_of((word, *parts)), again)
        one = Family([((0, 0),)])
        self.same(is_unders(one, one, paper_of(("below", one, one))), True)

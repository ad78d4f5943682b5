"""lanelots.bench: notes, whether they hold, are stale or lost, and what is told of them anew (point 94)."""

import copy

from lanelots.bench import Bench
from lanelots.claims import is_claim, is_paper, is_true, paper_of
from lanelots.errors import InvalidClaim, InvalidName, InvalidParts, Lost, TakenName, UnknownName
from lanelots.families import CoFamily, Family
from lanelots.maps import Map
from lanelots.nets import Net
from lanelots.spans import Spans
from tests.bench_things import NET, NOT_NAMES, SPANS, all_seen, bench_with, seen
from tests.claim_things import CONTRARIES, KINDS, TABLE, TRUE_PARTS, UNTRUE_PARTS, WORDS, drawn_claims
from tests.helpers import NO_PAPERS, Case, Draw, spoil
from tests.test_claims import FAILING, NOT_WORDS

LOW = Net(2, [("low", 0, 1)])


def named(bench, word, parts):
    """Puts the things of the parts in by names, and tells the parts with these names in their place."""
    places = dict([(own, at) for one, other, _, at in TABLE for own in (one, other)])[word]
    for place in places:
        bench[f"thing{place}"] = parts[place]
    return [f"thing{place}" if place in places else part for place, part in enumerate(parts)]


def noted(word, parts):
    bench = Bench()
    told = bench.note("note", word, named(bench, word, parts))
    return bench, told


def claim_now(bench, name):
    """The claim of a note, with the things as they are now; None if a name has none."""
    word, *parts = bench.claim(name)
    places = dict([(own, at) for one, other, _, at in TABLE for own in (one, other)])[word]
    if not all(parts[place] in bench.names() for place in places):
        return None
    return (word, *[bench[part] if place in places else part for place, part in enumerate(parts)])


def looked(bench, name):
    """What is to be told of a note, by what claims tell."""
    claim = claim_now(bench, name)
    if claim is None or not is_claim(claim):
        return "lost"
    return "holds" if is_paper(claim, bench.paper(name)) else "stale"


class Noted(Case):
    def test_each_line_by_either_word(self):
        for one, other, _, _ in TABLE:
            for parts, wanted in ((TRUE_PARTS[one], one), (UNTRUE_PARTS[one], other)):
                for word in (one, other):
                    bench, told = noted(word, parts)
                    claim = bench.claim("note")
                    self.same([told, claim[0], claim_now(bench, "note")], [wanted, wanted, (wanted, *parts)])
                    self.same([bench.paper("note"), bench.look("note")], [paper_of((wanted, *parts)), "holds"])
                    self.same([bench.do("look note"), bench.do("told note"), bench.log()[-1], bench.notes()],
                              ["holds", wanted, "note note", ["note"]])
                    self.same([bench.renew("note"), bench.do("renew note"), bench.log()[-2:]],
                              [wanted, wanted, ["renew note"] * 2])

    def test_drawn_ones(self):
        for word, parts, wanted in drawn_claims(12):
            true = word if wanted else CONTRARIES[word]
            for asked in (word, CONTRARIES[word]):
                bench, told = noted(asked, parts)
                self.same([told, bench.look("note"), looked(bench, "note"), bench.paper("note")],
                          [true, "holds", "holds", paper_of((true, *parts))])

    def test_claims_are_told_by_names(self):
        bench = bench_with()
        self.same([bench.note(name="a", word="misses", parts=("fam", [5, 1], 3)), bench.claim(name="a"),
                   bench.paper(name="a"),
                   bench.look(name="a"), bench.renew(name="a")],
                  ["tells", ("tells", "fam", [5, 1], 3), (3, ((1, 2),), {((0, 2),): 0, ((1, 2),): 1}), "holds",
                   "tells"])
        self.same([bench.note("b", "reached", ["chart", (6, 3), [6, 3]]), bench.claim("b")],
                  ["barred", ("barred", "chart", (6, 3), [6, 3])])
        self.same([bench.notes(), bench.names(), "a" in bench, len(bench)],
                  [["a", "b"], ["chart", "cofam", "fam", "net", "spans"], True, 8])

    def test_in_the_place_of_another_note(self):
        bench = bench_with()
        bench.note("a", "fits", ["spans"])
        self.same([bench.note("a", "alike", ["net", "net"]), bench.claim("a"), bench.undo(), bench.claim("a"),
                   bench.redo(),
                   bench.claim("a")], ["alike", ("alike", "net", "net"), "note a", ("fits", "spans"), "note a",
                                       ("alike", "net", "net")])

    def test_names_that_go_from_a_thing_to_a_note_and_back(self):
        bench = bench_with()
        self.fails(TakenName, {"value": "net"}, bench.note, "net", "fits", ["spans"])
        bench.drop("net")
        self.same([bench.note("net", "fits", ["spans"]), bench.notes()], ["fits", ["net"]])
        self.fails(TakenName, {"value": "net"}, bench.__setitem__, "net", NET)
        self.fails(UnknownName, {"value": "net"}, bench.__getitem__, "net")
        bench.drop("net")
        bench["net"] = NET
        self.fails(UnknownName, {"value": "net"}, bench.look, "net")
        self.same([bench.log()[-4:], bench.undo(), bench.undo(), bench.look("net"), bench.undo(), bench.undo(),
                   bench["net"]],
                  [["drop net", "note net", "drop net", "put net"], "put net", "drop net", "holds", "note net",
                   "drop net",
                   NET])


class Looked(Case):
    def test_holds_stale_and_lost(self):
        bench = bench_with(net=LOW, more=LOW)
        self.same([bench.note("same", "alike", ["net", "more"]), bench.look("same")], ["alike", "holds"])
        # The paper goes with the gates: other gates leave it stale, though the claim is true.
        for thing, wanted in ((Net(2, [("low", 0, 1), ("low", 0, 1)]), "stale"), (Net(2), "stale"), (LOW, "holds"),
                              (Net(3), "lost"), (SPANS, "lost"), (Map.same(2), "lost"),
                              (Net(2, [("low", 0, 1)]), "holds")):
            bench["more"] = thing
            self.same([bench.look("same"), bench.do("look same"), looked(bench, "same")], [wanted] * 3)
        bench.drop("more")
        self.same([bench.look("same"), bench.claim("same")], ["lost", ("alike", "net", "more")])
        self.fails(Lost, {"name": "same"}, bench.renew, "same")
        self.fails(Lost, {"name": "same"}, bench.do, "renew same")
        bench.undo()
        self.same([bench.look("same"), bench.renew("same")], ["holds", "alike"])

    def test_a_change_may_leave_a_note_as_it_is(self):
        bench = bench_with(fam=Family([((0, 0),)]), held=Spans(2, [(0, 1, 3)]))
        bench.note("low", "tells", ["fam", [4, 9], 4])
        bench.note("fit", "fits", ["held"])
        for lots, wanted in (([((0, 0),)], "holds"), ([((0, 1),)], "stale"), ([((0, 0),), ((1, 0),)], "stale"),
                             ([((2, 0),)], "lost")):
            bench["fam"] = Family(lots)
            self.same([bench.look("low"), looked(bench, "low")], [wanted] * 2)
        for differences, wanted in (([], "holds"), ([(0, 1, 0)], "holds"), ([(0, 1, -1)], "stale"),
                                    ([(0, 1, -1), (1, 0, 0)], "stale")):
            bench["held"] = Spans(2, differences)
            self.same([bench.look("fit"), looked(bench, "fit")], [wanted] * 2)
        self.same([bench.renew("fit"), bench.claim("fit"), bench.look("fit")], ["empty", ("empty", "held"), "holds"])
        self.fails(Lost, {"name": "low"}, bench.renew, "low")

    def test_renewed_by_the_contrary_word_and_back(self):
        for one, other, _, _ in TABLE:
            parts, others = TRUE_PARTS[one], UNTRUE_PARTS[one]
            bench, _ = noted(one, parts)
            told = named(bench, one, others)
            if [part for part in told if not isinstance(part, str)] == [part for part in bench.claim("note")[1:]
                                                                        if not isinstance(part, str)]:
                self.same([bench.look("note"), bench.claim("note")[0], bench.renew("note"), bench.claim("note")[0],
                           bench.look("note")], ["stale", one, other, other, "holds"])
                named(bench, one, parts)
                self.same([bench.look("note"), bench.renew("note"), bench.look("note")], ["stale", one, "holds"])

    def test_each_line_gets_stale_and_lost(self):
        """Behind changes of the things by a fixed rule, notes are looked at and told anew, as claims tell."""
        counted = {}
        for number, (word, parts, _) in enumerate(drawn_claims(10)):
            bench, true = noted(word, parts)
            draw = Draw(number)
            for other, more, _ in list(drawn_claims(2)):
                if KINDS[other] == KINDS[word]:
                    named(bench, word, more)
                    self.looks(bench, counted, word)
            for name in bench.names():
                bench[name] = draw.pick((NET, SPANS, Map.same(2), Family([((0, 0),)]), CoFamily([((0, 0),)])))
                self.looks(bench, counted, word)
        self.assertTrue(all(counted.get((one, "lost"), 0) > 0 for one, _, _, _ in TABLE), counted)
        self.assertGreater(sum(many for (_, told), many in counted.items() if told == "stale"), 20, counted)

    def looks(self, bench, counted, word):
        wanted = looked(bench, "note")
        counted[word, wanted] = counted.get((word, wanted), 0) + 1
        self.same(bench.look("note"), wanted)
        if wanted == "lost":
            self.fails(Lost, {"name": "note"}, bench.renew, "note")
            return
        claim = claim_now(bench, "note")
        true = claim[0] if is_true(claim) else CONTRARIES[claim[0]]
        self.same([bench.renew("note"), bench.look("note"), bench.claim("note")[0]], [true, "holds", true])
        bench.undo()


class Wrong(Case):
    def setUp(self):
        self.bench = bench_with()
        self.bench.note("a", "fits", ["spans"])
        self.ahead = all_seen(self.bench)

    def tearDown(self):
        self.same(all_seen(self.bench), self.ahead)

    def test_names(self):
        for value in NOT_NAMES:
            self.fails(InvalidName, {"value": value}, self.bench.note, value, None, None)
        for name in ("net", "fam", "chart"):
            self.fails(TakenName, {"value": name}, self.bench.note, name, None, None)

    def test_words(self):
        for value in NOT_WORDS:
            self.fails(InvalidClaim, {"value": value}, self.bench.note, "b", value, None)

    def test_parts(self):
        for word in WORDS:
            kinds = KINDS[word]
            for value in NO_PAPERS[:12] + (["net"] * (len(kinds) + 1), [None] * (len(kinds) - 1), "net", {0: "net"}):
                if not isinstance(value, (list, tuple)) or len(value) != len(kinds):
                    self.fails(InvalidParts, {"position": None}, self.bench.note, "b", word, value)
        for word, kinds in KINDS.items():
            places = [place for place, kind in enumerate(kinds) if kind in ("net", "family", "map", "spans")]
            for place in places:
                for value in NOT_NAMES + ("b", "a", "nets", NET):
                    parts = ["net"] * len(kinds)
                    parts[place] = value
                    self.fails(InvalidParts, {"position": place}, self.bench.note, "b", word, parts)
                    # The first one decides.
                    parts = [value if own >= place else "net" for own in range(len(kinds))]
                    self.fails(InvalidParts, {"position": place}, self.bench.note, "b", word, parts)

    def test_no_claims(self):
        bench = self.bench
        for word, parts, things in (
                ("below", ["fam", "cofam"], (0, 1)), ("over", ["cofam", "cofam"], (0, 1)),
                ("alike", ["net", "chart"], (0, 1)),
                ("tells", ["fam", [1], 0], (0,)), ("misses", ["fam", [1, 2], True], (0,)),
                ("tells", ["chart", [1, 2], 0], (0,)),
                ("hangs", ["net", 0, 2], (0,)), ("free", ["net", True, 0], (0,)), ("fits", ["net"], (0,)),
                ("within", ["spans", "fam", "fam", None], (0, 1, 2)), ("kept", ["spans", "net"], (0, 1)),
                ("barred", ["chart", [1, 2], [1]], (0,)), ("reached", ("chart", [1, 2], "net"), (0,)),
                ("settles", ["chart"], (0,)), ("laps", ["fam"], (0,)), ("paced", ["chart", 0, (1, 61)], (0,)),
                ("faster", ["chart", 2, (1, 1)], (0,)), ("even", ["spans"], (0,))):
            claim = (word, *[bench[part] if place in things else part for place, part in enumerate(parts)])
            self.fails(InvalidClaim, {"value": claim}, bench.note, "b", word, parts)

    def test_what_fails_in_the_second_column(self):
        for word, parts in FAILING:
            bench = Bench()
            told = named(bench, word, parts)
            ahead = seen(bench)
            for own in (word, CONTRARIES[word]):
                self.fails(InvalidClaim, {"value": (own, *parts)}, bench.note, "b", own, told)
            self.same(seen(bench), ahead)

    def test_unknown_notes(self):
        bench = self.bench
        for action in (bench.claim, bench.paper, bench.look, bench.renew):
            for value in NOT_NAMES + ("b", "net", "aa") + NO_PAPERS:
                self.fails(UnknownName, {"value": value}, action, value)


class New(Case):
    def test_lists_that_were_passed(self):
        bench = bench_with()
        content, low, high = [5, 1], [5, 3], [5, None]
        parts = ["fam", content, 3]
        bench.note("a", "tells", parts)
        bench.note("b", "reached", ("chart", low, high))
        ahead = [copy.deepcopy(seen(bench)), bench.undo(), bench.redo()]
        for spoiled in (content, low, high, parts):
            spoiled[0] = "spoiled"
            spoiled.append(None)
        self.same(seen(bench), ahead[0])
        self.same([bench.claim("a"), bench.claim("b")], [("tells", "fam", [5, 1], 3),
                                                         ("reached", "chart", [5, 3], [5, None])])

    def test_lists_and_dicts_that_were_told(self):
        for one, other, _, _ in TABLE:
            for word, parts in ((one, TRUE_PARTS[one]), (other, UNTRUE_PARTS[one])):
                bench, _ = noted(word, parts)
                ahead = copy.deepcopy(seen(bench))
                for told in (bench.claim("note"), bench.paper("note")):
                    spoil(told)
                self.same([seen(bench), bench.look("note")], [ahead, "holds"])

    def test_kinds_stay(self):
        bench = bench_with()
        bench.note("a", "reached", ["chart", (5, 3), [5, 3]])
        self.same(bench.claim("a"), ("reached", "chart", (5, 3), [5, 3]))
        paper = bench.paper("a")
        self.assertIs(type(paper), list)
        bench.note("b", "paced", ["chart", 0, (1, 1)])
        self.same([bench.claim("b"), type(bench.paper("b"))], [("paced", "chart", 0, (1, 1)), dict])

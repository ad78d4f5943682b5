"""lanelots.bench: long rows of deeds beside a plain list of states (points 94 and 95)."""

from lanelots.bench import Bench, tried
from lanelots.claims import is_claim, is_paper, is_true, paper_of
from lanelots.errors import LaneError, LimitError, MissingError, StateError
from lanelots.families import CoFamily, Family
from lanelots.gaps import behind
from lanelots.maps import Map
from lanelots.nets import Net
from lanelots.pace import pace
from lanelots.spans import Spans
from lanelots.told import map_of, unlike
from tests.claim_things import CONTRARIES, KINDS, WORDS
from tests.helpers import Case, Draw

OWN = (LaneError, MissingError, StateError, LimitError)
NAMES = ("a", "b", "c", "d", "e", "f", "n", "m")
KIND_NAMES = {Net: "net", Family: "family", CoFamily: "cofamily", Map: "map", Spans: "spans"}


class Failed(Exception):
    """The deed fails with an error of this name."""


class Plain:
    """A list of states, each a dict of things and a dict of notes, and the lines of the changes between them."""

    def __init__(self):
        self.states, self.lines, self.at = [({}, {})], [], 0

    def now(self):
        return self.states[self.at]

    def put(self, line, things, notes):
        self.states = self.states[:self.at + 1] + [(things, notes)]
        self.lines = self.lines[:self.at] + [line]
        self.at += 1

    def thing(self, name, *kinds):
        things, _ = self.now()
        if name not in things:
            raise Failed("UnknownName")
        if kinds and type(things[name]) not in kinds:
            raise Failed("WrongThing")
        return things[name]

    def put_thing(self, line, name, thing):
        things, notes = self.now()
        if name in notes:
            raise Failed("TakenName")
        self.put(line, {**things, name: thing}, notes)
        return "done"

    def claim(self, word, parts):
        """The claim with things in the place of names; None if a name has none, or if it is no claim."""
        things, _ = self.now()
        told = [things.get(part) if kind in ("net", "family", "map", "spans") else part
                for part, kind in zip(parts, KINDS[word])]
        return (word, *told) if is_claim((word, *told)) else None

    def note(self, name, word, parts):
        things, _ = self.now()
        if name in things:
            raise Failed("TakenName")
        if any(kind in ("net", "family", "map", "spans") and part not in things for part,
               kind in zip(parts, KINDS[word])):
            raise Failed("InvalidParts")
        return self.put_note(f"note {name}", name, word, parts, "InvalidClaim")

    def put_note(self, line, name, word, parts, error):
        claim = self.claim(word, parts)
        if claim is None:
            raise Failed(error)
        true = claim if is_true(claim) else (CONTRARIES[word], *claim[1:])
        things, notes = self.now()
        self.put(line, things, {**notes, name: (true[0], parts, paper_of(true))})
        return true[0]

    def noted(self, name):
        _, notes = self.now()
        if name not in notes:
            raise Failed("UnknownName")
        return notes[name]

    def look(self, name):
        word, parts, paper = self.noted(name)
        claim = self.claim(word, parts)
        if claim is None:
            return "lost"
        return "holds" if is_paper(claim, paper) else "stale"

    def drop(self, line, name):
        things, notes = self.now()
        if name not in things and name not in notes:
            raise Failed("UnknownName")
        self.put(line, {own: things[own] for own in things if own != name},
                 {own: notes[own] for own in notes if own != name})

    def step(self, by):
        if not 0 <= self.at + by <= len(self.lines):
            raise Failed("NothingToUndo" if by < 0 else "NothingToRedo")
        self.at += by
        return self.lines[self.at if by < 0 else self.at - 1]

    def do(self, line):
        word, *rest = line.split(" ")
        if word in ("undo", "redo"):
            return self.step(-1 if word == "undo" else 1)
        if word == "drop":
            self.drop(line, rest[0])
            return "done"
        if word == "renew":
            own, parts, _ = self.noted(rest[0])
            return self.put_note(line, rest[0], own, parts, "Lost")
        if word == "look":
            return self.look(rest[0])
        if word == "told":
            return self.noted(rest[0])[0]
        if word in ("answer", "unlike", "pace"):
            return self.answer(word, rest)
        return self.change(line, word, rest)

    def answer(self, word, rest):
        if word == "unlike":
            for name in rest:
                self.thing(name)
            found = unlike(self.thing(rest[0], Net), self.thing(rest[1], Net))
            return "-" if found is None else str(found[0])
        if word == "pace":
            return "{} {}".format(*pace(self.thing(rest[0], Map), int(rest[1])))
        thing, content = self.thing(rest[0]), [int(number) for number in rest[1].split(",")]
        if isinstance(thing, Spans):
            return "fits" if content in thing else "lacks"
        told = thing(content)
        return ",".join(map(str, told)) if isinstance(told, list) else str(told)

    def change(self, line, word, rest):
        new, *words = rest
        if word == "make":
            return self.make(line, new, words[0], words[1:])
        thing = self.thing(words[0], *{"gate": (Net,), "without": (Net,), "raise": (Family, CoFamily),
                                       "rounds": (Net, Map), "lane": (Map,)}[word])
        self.free(new)
        if word == "gate":
            gate = (words[1], int(words[2]), int(words[3]))
            return self.put_thing(line, new, thing.with_gate(len(thing), gate))
        number = int(words[1])
        made = {"without": lambda: thing.without(number), "raise": lambda: thing + number,
                "rounds": lambda: thing * number,
                "lane": lambda: thing[number]}[word]()
        return self.put_thing(line, new, made)

    def free(self, new):
        if new in self.now()[1]:
            raise Failed("TakenName")

    def make(self, line, new, how, names):
        every = (Net, Family, CoFamily, Map, Spans)
        firsts = {"copy": every, "turned": every[:4], "other": (Family, CoFamily), "map": (Net,), "behind": (Net, Map),
                  "beside": (Net, Map), "least": (Family, CoFamily), "greatest": (Family, CoFamily), "both": (Spans,),
                  "after": (Spans,)}
        for name in names:
            self.thing(name)
        things = [self.thing(names[0], *firsts[how])]
        if len(names) == 2:
            things.append(self.thing(names[1], *((Map,) if how == "after" else (type(things[0]),))))
        self.free(new)
        made = {"copy": lambda one: one, "turned": lambda one: -one, "other": lambda one: ~one, "map": map_of,
                "behind": lambda one, two: one + two, "beside": lambda one, two: one.beside(two),
                "least": lambda one, two: one & two, "greatest": lambda one, two: one | two,
                "both": lambda one, two: one & two, "after": behind}[how](*things)
        return self.put_thing(line, new, made)


def drawn_thing(draw):
    lanes = draw.pick((2, 2, 2, 1, 3))
    kind = draw.below(5)
    if kind == 0:
        return draw.net(lanes, draw.below(4))
    if kind == 1:
        return draw.family(2, lanes, 3)
    if kind == 2:
        return draw.family(2, lanes, 3, CoFamily)
    if kind == 3:
        return Map([draw.family(1 + draw.below(2), lanes, draw.pick((0, 2))) for _ in range(lanes)])
    return Spans(lanes, draw.differences(lanes, 2, 3))


def drawn_command(draw):
    name = [draw.pick(NAMES) for _ in range(4)]
    small = draw.below(4)
    one_of_ten = draw.pick(("gate", "without", "raise", "rounds", "lane", "one", "two", "name", "ask", "ask"))
    if one_of_ten == "gate":
        gate = draw.gate(2)
        return f"gate {name[0]} {name[1]} {gate[0]} {gate[1]} {gate[2]}"
    if one_of_ten in ("without", "rounds", "lane"):
        return f"{one_of_ten} {name[0]} {name[1]} {small}"
    if one_of_ten == "raise":
        return f"raise {name[0]} {name[1]} {small - 2}"
    if one_of_ten == "one":
        return f"make {name[0]} {draw.pick(('copy', 'turned', 'other', 'map'))} {name[1]}"
    if one_of_ten == "two":
        how = draw.pick(("behind", "beside", "least", "greatest", "both", "after"))
        return f"make {name[0]} {how} {name[1]} {name[2]}"
    if one_of_ten == "name":
        return f"{draw.pick(('drop', 'renew', 'look', 'told', 'renew', 'look'))} {draw.pick(('n', 'm', 'n', 'm', 'a'))}"
    return draw.pick((f"answer {name[0]} {small},{small - 1}", f"answer {name[0]} {small}",
                      f"unlike {name[0]} {name[1]}",
                      f"pace {name[0]} {draw.below(2)}", "undo", "undo", "undo", "redo", "redo"))


def drawn_note(draw, things):
    """A note mostly of things of the right kinds, if there are some."""
    word = draw.pick(WORDS)
    parts = []
    for kind in KINDS[word]:
        known = [name for name in sorted(things) if KIND_NAMES[type(things[name])] == kind]
        parts.append({"content": [draw.number(3), draw.number(3)], "number": draw.number(3), "lane": draw.below(2),
                      "row": [draw.pick((None, 0, 1)) for _ in range(2)],
                      "rate": (draw.number(4), 1 + draw.below(2))}.get(
                          kind, draw.pick(known) if known and draw.below(9) else draw.pick(NAMES)))
    return draw.pick(("n", "m", "n", "m", "n", "m", "a")), word, parts


def outcome(action):
    """What the action returns, or the name of the error that it raises."""
    try:
        return action()
    except Failed as error:
        return "failed " + error.args[0]
    except OWN as error:
        return "failed " + type(error).__name__


class Deeds(Case):
    def beside(self, bench, plain):
        things, notes = plain.now()
        self.same([bench.names(), bench.notes(), [bench[name] for name in bench.names()], len(bench), bench.log()],
                  [sorted(things), sorted(notes), [things[name] for name in sorted(things)], plain.at,
                   plain.lines[:plain.at]])
        for name, (word, parts, paper) in notes.items():
            self.same([bench.claim(name), bench.paper(name), bench.look(name)],
                      [(word, *parts), paper, plain.look(name)])

    def test_long_rows(self):
        counted = {}
        for seed in range(25):
            draw, bench, plain = Draw(seed), Bench(), Plain()
            for _ in range(120):
                told, wanted, what = self.deed(draw, bench, plain)
                self.same(told, wanted)
                counted[what, str(wanted).startswith("failed")] = counted.get((what, str(wanted).startswith("failed")),
                                                                              0) + 1
                self.beside(bench, plain)
            self.back_and_again(bench, plain)
        for what in ("put", "drop", "note", "undo", "redo", "gate", "raise", "rounds", "lane", "make", "renew", "look",
                     "answer", "row"):
            self.assertGreater(counted.get((what, False), 0), 3, (what, counted))
        self.assertGreater(sum(many for (_, failed), many in counted.items() if failed), 300)

    def deed(self, draw, bench, plain):
        kind = draw.below(12)
        if kind < 3:
            name, thing = draw.pick(NAMES[:6]), drawn_thing(draw)
            return (outcome(lambda: bench.__setitem__(name, thing) or "done"),
                    outcome(lambda: plain.put_thing(f"put {name}", name, thing)), "put")
        if kind == 3:
            name, word, parts = drawn_note(draw, plain.now()[0])
            return (outcome(lambda: bench.note(name, word, parts)), outcome(lambda: plain.note(name, word, parts)),
                    "note")
        if kind == 4:
            return self.row(draw, bench, plain)
        command = drawn_command(draw)
        return outcome(lambda: bench.do(command)), outcome(lambda: plain.do(command)), command.split(" ")[0]

    def row(self, draw, bench, plain):
        """A row of commands: all of them or none; and before it, the same as a trial, behind which all is as ahead."""
        commands = [drawn_command(draw) for _ in range(1 + draw.below(3))]
        ahead = (plain.states, plain.lines, plain.at)
        found = []
        for position, command in enumerate(commands):
            told = outcome(lambda: plain.do(command))
            if str(told).startswith("failed"):
                plain.states, plain.lines, plain.at = ahead
                self.same(outcome(lambda: bench.do_all(*commands)), "failed CommandFailed")
                return position, self.position(bench, commands), "row"
            found.append(told)
        self.same(tried(bench, lambda own: own.do_all(*commands)), found)
        return bench.do_all(*commands), found, "row"

    def position(self, bench, commands):
        try:
            tried(bench, lambda own: own.do_all(*commands))
        except StateError as error:
            return error.position
        return None

    def back_and_again(self, bench, plain):
        while plain.at > 0:
            self.same(bench.undo(), plain.step(-1))
            self.beside(bench, plain)
        self.same(outcome(bench.undo), "failed NothingToUndo")
        while plain.at < len(plain.lines):
            self.same(bench.redo(), plain.step(1))
        self.beside(bench, plain)
        self.same(outcome(bench.redo), "failed NothingToRedo")

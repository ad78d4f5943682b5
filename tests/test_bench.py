"""lanelots.bench: things under names, changes taken back and done again, and commands (points 94 and 95)."""

import inspect

from lanelots import bench as bench_file
from lanelots.bench import Bench, tried
from lanelots.errors import (
    CommandFailed, InvalidCommand, InvalidContent, InvalidGate, InvalidLane, InvalidName, InvalidOther, InvalidPosition,
    InvalidThing, LaneError, NothingFits, NothingToRedo, NothingToUndo, OtherLanes, StateError, TakenName, TooMany,
    UnknownName, WrongThing,
)
from lanelots.families import CoFamily, Family
from lanelots.gaps import behind
from lanelots.maps import Map
from lanelots.nets import Net
from lanelots.spans import Spans
from lanelots.told import map_of
from tests.bench_things import (
    CHART, COFAMILY, FAMILY, NET, NOT_NAMES, NOT_THINGS, SPANS, THINGS, all_seen, bench_with, seen,
)
from tests.helpers import HUGE, NO_PAPERS, Case, antichain
from tests.pace_maps import SEVEN, TOO_SPREAD
from tests.test_commands import NO_COMMANDS
from tests.test_told import TO_MORE

METHODS = {
    "__init__": ["self"], "__getitem__": ["self", "at"], "__setitem__": ["self", "at", "worth"],
    "__contains__": ["self", "x"], "__len__": ["self"], "names": ["self"], "notes": ["self"],
    "note": ["self", "name", "word", "parts"], "claim": ["self", "name"], "paper": ["self", "name"],
    "look": ["self", "name"], "renew": ["self", "name"], "drop": ["self", "name"], "undo": ["self"], "redo": ["self"],
    "log": ["self"], "do": ["self", "command"], "do_all": ["self", "commands"],
}


class Interface(Case):
    def test_methods_stand_in_the_class_itself(self):
        for name, parameters in METHODS.items():
            self.assertEqual(list(inspect.signature(vars(Bench)[name]).parameters), parameters)
        self.assertEqual([Bench.__module__, tried.__module__], [bench_file.__name__] * 2)
        self.assertEqual(list(inspect.signature(tried).parameters), ["bench", "action"])

    def test_examples(self):
        bench = Bench()
        bench["net"] = Net(2, [("low", 0, 1)])
        self.same([bench.do("gate more net add 0 2"), bench.do("answer more 3,5"), bench.do("make chart map more"),
                   bench.do("pace chart 0"), bench.do("unlike net more")], ["done", "5,5", "done", "0 1", "0"])
        self.same([bench.note("same", "alike", ["net", "more"]), bench.do("without more more 1"), bench.do("look same"),
                   bench.do("renew same"), bench.do("undo"), bench.log()[-1]],
                  ["unlike", "done", "stale", "alike", "renew same", "without more more 1"])


class Things(Case):
    def test_put_and_told(self):
        bench = Bench()
        self.same([bench.names(), bench.notes(), bench.log(), len(bench)], [[], [], [], 0])
        for name in reversed(sorted(THINGS)):
            bench[name] = THINGS[name]
        self.same([bench.names(), [bench[name] for name in bench.names()], len(bench), bench.log()],
                  [sorted(THINGS), [THINGS[name] for name in sorted(THINGS)], 5,
                   ["put " + name for name in reversed(sorted(THINGS))]])
        bench["net"] = SPANS
        self.same([bench["net"], len(bench), bench.log()[-1], bench.undo(), bench["net"]],
                  [SPANS, 6, "put net", "put net", NET])

    def test_names(self):
        bench = Bench()
        for name in ("a", "z9", "abcdefghijkl", "a12345678901", "undo", "map"):
            bench[name] = NET
            self.same([name in bench, bench[name]], [True, NET])
        ahead = seen(bench)
        for value in NOT_NAMES:
            self.fails(InvalidName, {"value": value}, bench.__setitem__, value, NET)
            self.fails(InvalidName, {"value": value}, bench.__setitem__, value, None)
            self.fails(UnknownName, {"value": value}, bench.__getitem__, value)
            self.fails(UnknownName, {"value": value}, bench.drop, value)
            self.same(value in bench, False)
        for value in NO_PAPERS:
            self.fails(UnknownName, {"value": value}, bench.__getitem__, value)
            self.same(value in bench, False)
        for value in ("b", "ab", "undoo"):
            self.fails(UnknownName, {"value": value}, bench.__getitem__, value)
            self.fails(UnknownName, {"value": value}, bench.drop, value)
        self.same(seen(bench), ahead)

    def test_no_things(self):
        bench = bench_with()
        ahead = seen(bench)
        for value in NOT_THINGS:
            self.fails(InvalidThing, {"value": value}, bench.__setitem__, "new", value)
            self.fails(InvalidThing, {"value": value}, bench.__setitem__, "net", value)
        self.same(seen(bench), ahead)

    def test_errors_in_their_sequence(self):
        bench = bench_with()
        bench.note("same", "fits", ["spans"])
        self.fails(InvalidName, {"value": "Same"}, bench.__setitem__, "Same", None)
        self.fails(TakenName, {"value": "same"}, bench.__setitem__, "same", None)
        self.fails(TakenName, {"value": "same"}, bench.__setitem__, "same", NET)
        self.fails(UnknownName, {"value": "same"}, bench.__getitem__, "same")

    def test_dropped(self):
        bench = bench_with()
        self.same([bench.drop("net"), "net" in bench, bench.names(), bench.log()[-1], len(bench)],
                  [None, False, ["chart", "cofam", "fam", "spans"], "drop net", 6])
        self.fails(UnknownName, {"value": "net"}, bench.drop, "net")
        self.same([bench.undo(), bench["net"], bench.drop(name="net"), bench.do("drop fam"), bench.names()],
                  ["drop net", NET, None, "done", ["chart", "cofam", "spans"]])

    def test_told_lists_are_new(self):
        bench = bench_with()
        bench.note("same", "fits", ["spans"])
        ahead = seen(bench)
        for told in (bench.names(), bench.notes(), bench.log()):
            told.append("spoiled")
        self.same(seen(bench), ahead)
        self.assertRaises(TypeError, iter, bench)


class BackAndAgain(Case):
    def test_one_after_another(self):
        bench = bench_with(net=NET)
        self.same([bench.do("gate net net sort 0 1"), bench.undo(),
                   bench["net"], bench.redo(), len(bench["net"])],
                  ["done", "gate net net sort 0 1", NET, "gate net net sort 0 1", 3])
        self.same([bench.do("undo"), bench.do("undo"), bench.names(), bench.do("redo"), bench.do("redo"), len(bench)],
                  ["gate net net sort 0 1", "put net", [], "put net", "gate net net sort 0 1", 2])

    def test_nothing_to_take_back_or_to_do_again(self):
        bench = Bench()
        for action in (bench.undo, lambda: bench.do("undo")):
            self.fails(NothingToUndo, {}, action)
        for action in (bench.redo, lambda: bench.do("redo")):
            self.fails(NothingToRedo, {}, action)
        bench["net"] = NET
        self.fails(NothingToRedo, {}, bench.redo)
        bench.undo()
        self.fails(NothingToUndo, {}, bench.undo)
        self.same([bench.redo(), bench.names()], ["put net", ["net"]])
        self.fails(NothingToRedo, {}, bench.redo)

    def test_a_change_behind_what_was_taken_back(self):
        bench = bench_with(net=NET)
        bench.do("make a copy net")
        bench.do("make b copy net")
        bench.undo()
        bench.undo()
        bench["c"] = SPANS
        self.fails(NothingToRedo, {}, bench.redo)
        self.same([bench.log(), bench.names()], [["put net", "put c"], ["c", "net"]])
        # What raises an error is no change, nor is what only tells.
        bench.undo()
        for command in ("drop x", "make d copy x", "gate d net low 0 0", "raise d net 1", "look x", "pace net 0"):
            self.assertRaises((LaneError, StateError, LookupError), bench.do, command)
        bench.do("answer net 1,2")
        self.same([bench.redo(), bench.names()], ["put c", ["c", "net"]])

    def test_three_hundred_changes(self):
        bench = bench_with(fam=FAMILY)
        for number in range(299):
            bench.do(f"raise fam fam {number % 7 - 3}")
        total = sum(number % 7 - 3 for number in range(299))
        self.same([len(bench), bench["fam"], len(bench.log())], [300, FAMILY + total, 300])
        lines = [bench.undo() for _ in range(300)]
        self.same([lines[::-1][:3], lines[0], len(bench), bench.names()],
                  [["put fam", "raise fam fam -3", "raise fam fam -2"], f"raise fam fam {298 % 7 - 3}", 0, []])
        self.fails(NothingToUndo, {}, bench.undo)
        self.same([[bench.redo() for _ in range(300)], bench["fam"]], [lines[::-1], FAMILY + total])
        self.fails(NothingToRedo, {}, bench.redo)


class Commands(Case):
    def made(self, command, wanted, **things):
        """What the command makes is told under the new name, all else stays, and it can be taken back."""
        bench = bench_with(**things)
        ahead, new = seen(bench), command.split(" ")[1]
        self.same([bench.do(command), bench[new], bench.log()[-1], len(bench)], ["done", wanted, command, ahead[3] + 1])
        self.same(dict(sorted({**ahead[0], new: wanted}.items())), seen(bench)[0])
        self.same([bench.undo(), seen(bench), bench.redo(), bench[new]], [command, ahead, command, wanted])

    def test_each_change_of_one_thing(self):
        for gate, line in ((("low", 0, 1), "low 0 1"), (("high", 1, 0), "high 1 0"), (("sort", 0, 1), "sort 0 1"),
                           (("copy", 1, 0), "copy 1 0"), (("add", 1, -7), "add 1 -7"),
                           (("add", 0, HUGE), f"add 0 {HUGE}")):
            self.made(f"gate new net {line}", NET + Net(2, [gate]))
            self.made(f"gate net net {line}", NET + Net(2, [gate]))
        self.made("without new net 0", NET.without(0))
        self.made("without new net 1", NET.without(1))
        for number in (0, 5, -5, HUGE):
            self.made(f"raise new fam {number}", FAMILY + number)
            self.made(f"raise cofam cofam {number}", COFAMILY + number)
        for many in (0, 1, 3, 60):
            self.made(f"rounds new chart {many}", CHART * many)
            self.made(f"rounds new net {many}", NET * many)
        self.made("rounds new net 200", NET * 200)
        self.made("lane new chart 0", FAMILY)
        self.made("lane chart chart 1", Family([((1, 0),)]))

    def test_each_how(self):
        for name, thing in THINGS.items():
            self.made(f"make new copy {name}", thing)
            self.made(f"make {name} copy {name}", thing)
        self.made("make new turned net", -NET)
        self.made("make new turned fam", CoFamily([((0, -2),), ((1, -2),)]))
        self.made("make new turned cofam", Family([((0, -2),), ((1, -2),)]))
        self.made("make new turned chart", -CHART)
        self.made("make new other fam", CoFamily([((0, 2), (1, 2))]))
        self.made("make new other cofam", Family([((0, 2), (1, 2))]))
        self.made("make new map net", map_of(NET))

    def test_each_how_of_two(self):
        net, chart = Net(2, [("high", 1, 0)]), Map([Family([((1, 4),)]), Family([((0, 0), (1, 1))])])
        one, two = Family([((0, 0),)]), Family([((1, 1),)])
        self.made("make new behind net more", NET + net, net=NET, more=net)
        self.made("make new behind more net", net + NET, net=NET, more=net)
        self.made("make new behind chart more", CHART + chart, chart=CHART, more=chart)
        self.made("make new behind more chart", chart + CHART, chart=CHART, more=chart)
        self.made("make new beside net more", NET.beside(net), net=NET, more=net)
        self.made("make new beside chart more", CHART.beside(chart), chart=CHART, more=chart)
        self.made("make new least one two", one & two, one=one, two=two)
        self.made("make new greatest one two", one | two, one=one, two=two)
        self.made("make new least one two", ~one & ~two, one=~one, two=~two)
        self.made("make new greatest one two", ~one | ~two, one=~one, two=~two)
        self.made("make new both one two", Spans(2, [(0, 1, 3), (1, 0, 5)]), one=SPANS, two=Spans(2, [(1, 0, 5)]))
        self.made("make new after spans chart", behind(SPANS, CHART))
        self.made("make net behind net net", NET + NET)
        self.assertNotEqual(CHART + chart, chart + CHART)

    def test_answers(self):
        bench = bench_with(empty=Spans(2, [(0, 1, -1), (1, 0, 0)]), **THINGS)
        ahead = all_seen(bench)
        for command, wanted in (
                ("answer net 3,5", "5,5"), ("answer net 5,-3", "-1,-3"), ("answer chart 5,1", "3,1"),
                ("answer fam 5,1", "3"), ("answer fam 5,1,9", "3"), ("answer cofam 5,1", "7"),
                (f"answer fam {HUGE},{HUGE}",
                                                                                               str(HUGE + 2)),
                ("answer spans 3,0", "fits"), ("answer spans 4,0", "lacks"), ("answer spans 3", "lacks"),
                ("answer spans 3,0,0", "lacks"), ("answer empty 0,0", "lacks"), ("unlike net net", "-"),
                ("pace chart 0", "0 1"), ("pace chart 1", "0 1")):
            self.same(bench.do(command), wanted)
        bench["fast"] = Map([Family([((1, -1),)]), Family([((0, 0),)])])
        bench["other"] = Net(2, [("low", 0, 1), ("add", 0, 2), ("add", 1, 0), ("high", 1, 0)])
        self.same([bench.do("pace fast 0"), bench.do("pace fast 1"), bench.do("unlike net other"), bench.do("undo"),
                   bench.do("undo")], ["-1 2", "-1 2", "1", "put other", "put fast"])
        bench["x"] = NET
        bench.undo()
        self.same([all_seen(bench)[0], all_seen(bench)[-2][0]], [ahead[0], "put x"])

    def test_no_commands(self):
        bench = bench_with()
        ahead = seen(bench)
        for value in NO_COMMANDS[:60] + NO_PAPERS:
            self.fails(InvalidCommand, {"value": value}, bench.do, value)
        self.same(seen(bench), ahead)
        self.same(bench.do(command="answer net 0,0"), "2,0")


class Failing(Case):
    def setUp(self):
        self.bench = bench_with()
        self.bench.note("note", "fits", ["spans"])
        self.bench["last"] = NET
        self.bench.undo()
        self.ahead = all_seen(self.bench)

    def tearDown(self):
        # What raises an error changes nothing, neither things nor what can be taken back and done again.
        self.same(all_seen(self.bench), self.ahead)

    def test_unknown_names(self):
        for command, name in (
                ("gate new x low 0 1", "x"), ("gate new note low 0 1", "note"), ("without new x 0", "x"),
                ("raise new x 0", "x"),
                ("rounds new x 0", "x"), ("lane new x 0", "x"), ("make new copy x", "x"), ("make new behind x y", "x"),
                ("make new behind net y", "y"), ("make new behind fam y", "y"), ("make new after note chart", "note"),
                ("drop x", "x"), ("drop new", "new"), ("renew x", "x"), ("renew net", "net"), ("look x", "x"),
                ("look net", "net"), ("told x", "x"), ("told fam", "fam"), ("answer x 1", "x"),
                ("answer note 1", "note"),
                ("unlike x net", "x"), ("unlike net x", "x"), ("unlike fam x", "x"), ("pace x 0", "x"),
                ("make note copy x", "x"), ("gate note x low 9 9", "x")):
            self.fails(UnknownName, {"value": name}, self.bench.do, command)

    def test_wrong_things(self):
        for kinds, commands in (
                ("net", ("gate new {} low 0 1", "without new {} 0", "make new map {}", "unlike {} net")),
                ("fam cofam", ("raise new {} 1", "make new other {}", "make new least {} fam",
                               "make new greatest {} fam")),
                ("net chart", ("rounds new {} 1", "make new behind {} net", "make new beside {} {}")),
                ("chart", ("lane new {} 0", "pace {} 0")), ("net fam cofam chart", ("make new turned {}",)),
                ("spans", ("make new both {} spans", "make new after {} chart"))):
            for command in commands:
                for name in THINGS:
                    if name not in kinds.split(" "):
                        self.fails(WrongThing, {"value": name}, self.bench.do, command.format(name, name))

    def test_wrong_second_things(self):
        for command, name in (("make new behind net chart", "chart"), ("make new behind chart net", "net"),
                              ("make new beside net fam", "fam"), ("make new beside chart net", "net"),
                              ("make new least fam cofam", "cofam"), ("make new least cofam fam", "fam"),
                              ("make new greatest fam net", "net"), ("make new both spans chart", "chart"),
                              ("make new after spans spans", "spans"), ("make new after spans net", "net"),
                              ("make new after chart spans", "chart"), ("unlike net chart", "chart"),
                              ("make new behind spans fam", "spans"), ("make new least net chart", "net")):
            self.fails(WrongThing, {"value": name}, self.bench.do, command)

    def test_taken_names(self):
        for command in ("gate note net low 0 1", "without note net 9", "raise note fam 1", "rounds note net 1000",
                        "lane note chart 9", "make note copy net", "make note behind net net",
                        "make note after spans chart",
                        "gate note net low 5 5"):
            self.fails(TakenName, {"value": "note"}, self.bench.do, command)
        # What no thing has, and things of wrong kinds, come ahead.
        self.fails(WrongThing, {"value": "fam"}, self.bench.do, "gate note fam low 0 1")
        self.fails(UnknownName, {"value": "x"}, self.bench.do, "make note behind fam x")

    def test_errors_of_what_is_done(self):
        for command, kind, attributes in (
                ("gate new net low 0 0", InvalidGate, {"value": ("low", 0, 0)}),
                ("gate new net sort 0 2", InvalidGate, {"value": ("sort", 0, 2)}),
                ("gate net net add 2 -5", InvalidGate, {"value": ("add", 2, -5)}),
                ("gate new net copy 12 99", InvalidGate, {"value": ("copy", 12, 99)}),
                ("without new net 2", InvalidPosition, {"value": 2}),
                (f"without new net {HUGE}", InvalidPosition, {"value": HUGE}),
                ("rounds new net 201", TooMany, {"what": "gates", "limit": 400}),
                ("rounds new chart 61", TooMany, {"what": "rounds", "limit": 60}),
                ("lane new chart 2", InvalidLane, {"value": 2}), ("pace chart 2", InvalidLane, {"value": 2}),
                ("answer net 1", InvalidContent, {"value": [1]}),
                ("answer chart 1,2,3", InvalidContent, {"value": [1, 2, 3]}),
                ("answer fam 1", InvalidContent, {"value": [1]}), ("answer cofam 1", InvalidContent, {"value": [1]})):
            self.fails(kind, attributes, self.bench.do, command)

    def test_errors_of_what_is_done_with_other_things(self):
        stairs, wide = Family(antichain(30)), Net(3)
        others = {"wide": wide, "same": Map.same(3), "seven": SEVEN, "twelve": Map.same(12), "many": Net(12, TO_MORE),
                  "full": Net(2, [("add", 0, 1)] * 400), "stairs": stairs, "back": Family(antichain(31, 2, 3)),
                  "empty": Spans(2, [(0, 1, -1), (1, 0, 0)]), "apart": TOO_SPREAD, "three": Spans(3)}
        for name, thing in others.items():
            self.bench[name] = thing
        for command, kind, attributes in (
                ("make new behind net wide", InvalidOther, {"value": wide}),
                ("unlike net wide", InvalidOther, {"value": wide}),
                ("make new behind chart same", InvalidOther, {"value": Map.same(3)}),
                ("make new beside seven seven", TooMany, {"what": "lanes", "limit": 12}),
                ("make new beside twelve chart", TooMany, {"what": "lanes", "limit": 12}),
                ("make new behind full net", TooMany, {"what": "gates", "limit": 400}),
                ("gate new full add 0 1", TooMany, {"what": "gates", "limit": 400}),
                ("make new map many", TooMany, {"what": "lots", "limit": 60}),
                ("unlike many many", TooMany, {"what": "lots", "limit": 60}),
                ("make new least stairs back", TooMany, {"what": "lots", "limit": 60}),
                ("make new greatest stairs back", TooMany, {"what": "lots", "limit": 60}),
                ("make new both spans three", OtherLanes, {"one": 2, "other": 3}),
                ("make new after spans same", OtherLanes, {"one": 2, "other": 3}),
                ("make new after empty chart", NothingFits, {}),
                ("pace seven 0", TooMany, {"what": "lanes", "limit": 6}),
                ("pace apart 1", TooMany, {"what": "spread", "limit": 60})):
            self.fails(kind, attributes, self.bench.do, command)
        for _ in others:
            self.bench.undo()
        # Those changes stand now where the one that was taken back stood.
        self.ahead = all_seen(self.bench)


class Rows(Case):
    def test_all_of_them(self):
        bench = bench_with(net=NET)
        self.same([bench.do_all(), len(bench)], [[], 1])
        self.same(bench.do_all("gate a net sort 0 1", "answer a 3,1", "unlike net a", "drop net", "undo",
                               "make b map net",
                               "pace b 0"), ["done", "1,3", "0", "done", "drop net", "done", "0 1"])
        # Each change is one of its own.
        self.same([bench.log(), bench.undo(), bench.undo(), bench.names()],
                  [["put net", "gate a net sort 0 1", "make b map net"], "make b map net", "gate a net sort 0 1",
                   ["net"]])

    def test_one_that_fails(self):
        bench = bench_with()
        bench.note("note", "fits", ["spans"])
        bench["x"] = NET
        bench.undo()
        ahead = all_seen(bench)
        for commands, position, kind in (
                (("nothing",), 0, InvalidCommand), (("make a copy net", "drop net", "look net"), 2, UnknownName),
                (("drop spans", "look note", "renew note"), 2, StateError), (("undo",) * 8, 6, NothingToUndo),
                (("redo", "redo"), 1, NothingToRedo), (("drop net", "make y copy fam", "gate net y low 0 1"), 2,
                                                       WrongThing),
                (("undo", "undo", "make note copy net", "make note copy net", None), 4, InvalidCommand),
                (("raise a fam 1", "answer a 1,2,3", "answer a 1"), 2, InvalidContent),
                (("make note copy net", "drop net"), 0, TakenName), (("rounds a chart 61",), 0, TooMany)):
            with self.assertRaises(CommandFailed) as caught:
                bench.do_all(*commands)
            self.same(caught.exception.position, position)
            self.assertIsInstance(caught.exception.__cause__, kind)
            self.same(all_seen(bench), ahead)
        with self.assertRaises(CommandFailed) as caught:
            bench.do_all("drop net", "gate net fam low 0 1")
        self.assertIs(type(caught.exception.__cause__), WrongThing)
        self.same([caught.exception.position, caught.exception.__cause__.value], [1, "fam"])


class Trials(Case):
    def test_as_it_was_ahead(self):
        bench = bench_with()
        bench.note("note", "fits", ["spans"])
        bench["x"] = NET
        bench.undo()
        ahead = all_seen(bench)

        def action(own):
            own.do_all("drop net", "undo", "undo", "make note copy net", "drop spans")
            own["more"] = SPANS
            return own.names(), own.log()

        self.same(tried(bench, action), tried(bench=bench, action=action))
        self.same(tried(bench, action)[0], ["chart", "cofam", "fam", "more", "net", "note"])
        self.same(all_seen(bench), ahead)
        self.assertIs(tried(bench, lambda own: own), bench)
        self.same([tried(bench, lambda own: own.undo()), tried(bench, lambda own: own.redo()), all_seen(bench)],
                  ["note note", "put x", ahead])

    def test_errors_go_on(self):
        bench = bench_with()
        ahead = all_seen(bench)

        def spoiling(own):
            own.drop("net")
            own.do("undo")
            own.undo()
            own.drop("net")

        self.fails(UnknownName, {"value": "spans"}, tried, bench, lambda own: [own.undo(), own["spans"]])
        self.same(all_seen(bench), ahead)
        for action, kind in ((spoiling, None), (lambda own: own.do_all("drop net", "drop net"), CommandFailed),
                             (lambda own: own.drop("net") or 1 // 0, ZeroDivisionError),
                             (lambda own: own.drop("net") or own[None], UnknownName)):
            if kind is None:
                self.same(tried(bench, action), None)
            else:
                self.assertRaises(kind, tried, bench, action)
            self.same(all_seen(bench), ahead)

    def test_within_one_another(self):
        bench = bench_with(net=NET)
        found = []

        def inner(own):
            own.do("drop net")
            found.append(own.names())
            return own.do_all("undo", "make b copy net")

        def outer(own):
            own.do("make a copy net")
            told = tried(own, inner)
            found.append(own.names())
            own.undo()
            return told + [own.redo()]

        self.same([tried(bench, outer), found, bench.names(), bench.log()],
                  [["drop net", "done", "make a copy net"], [["a"], ["a", "net"]], ["net"], ["put net"]])
        with self.assertRaises(CommandFailed):
            tried(bench, lambda own: tried(own, lambda third: third.do_all("drop net", "undo", "x")))
        self.same([bench.names(), bench.log()], [["net"], ["put net"]])

    def test_two_benches(self):
        one, two = bench_with(net=NET), bench_with(net=NET)
        one.do("drop net")
        tried(two, lambda own: one.undo())
        self.same([one.names(), two.names(), one.log(), one == two], [["net"], ["net"], ["put net"], False])

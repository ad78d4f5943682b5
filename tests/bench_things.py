"""Benches for the tests, and all that can be seen of one."""

from lanelots.bench import Bench
from lanelots.families import CoFamily, Family
from lanelots.maps import Map
from lanelots.nets import Net
from lanelots.spans import Spans

NET = Net(2, [("low", 0, 1), ("add", 0, 2)])
FAMILY, COFAMILY = Family([((0, 2),), ((1, 2),)]), CoFamily([((0, 2),), ((1, 2),)])
CHART = Map([FAMILY, Family([((1, 0),)])])
SPANS = Spans(2, [(0, 1, 3)])
THINGS = {"chart": CHART, "cofam": COFAMILY, "fam": FAMILY, "net": NET, "spans": SPANS}
NOT_NAMES = (None, True, False, 0, 1, b"a", [], ["a"], (), ("a",), {}, {"a": 1}, "", "A", "aB", "0", "0a", "a b", "a_",
             "-",
             "a\n", " a", "a ", "abcdefghijklm", "net,", object(), Net(1))
NOT_THINGS = (None, True, 0, 5, "net 1\n", [], [1, 2], (1, 2), [None], {}, {"net": 1}, ((0, 1),), [((0, 1),)],
              ("low", 0, 1), [Net(1)], Bench(), object(), ("fits", Spans(1)))


def bench_with(**things):
    """A bench with these things, or with one of each kind, under their names, put in by name."""
    bench = Bench()
    for name, thing in sorted((things or THINGS).items()):
        bench[name] = thing
    return bench


def seen(bench):
    """All that can be seen of a bench without a change."""
    return (
        {name: bench[name] for name in bench.names()},
        {name: (bench.claim(name), bench.paper(name), bench.look(name)) for name in bench.notes()},
        bench.log(), len(bench),
    )


def all_seen(bench):
    """The same, and what is seen as all changes are taken back and done again, behind which it is as ahead."""
    found = [seen(bench)]
    many, undone = 0, 0
    while len(bench):
        found.append((bench.undo(), seen(bench)))
        undone += 1
    for _ in range(undone):
        bench.redo()
    try:
        while True:
            found.append((bench.redo(), seen(bench)))
            many += 1
    except RuntimeError as error:
        found.append(type(error).__name__)
    for _ in range(many):
        bench.undo()
    return found

"""lanelots.texts and lanelots.readers: written forms of all things, and what is read of them again (point 91)."""

from lanelots.errors import InvalidText, InvalidThing
from lanelots.families import CoFamily, Family
from lanelots.maps import Map
from lanelots.nets import Net
from lanelots.readers import read
from lanelots.spans import Spans
from lanelots.texts import written
from tests.helpers import HUGE, LOTS, NOT_LISTS, Case, Draw, antichain, drawn_families, drawn_nets
from tests.test_maps import drawn_charts
from tests.test_spans import drawn_spans

TWELVE = list(range(12))
FORMS = (
    (Net(1), "net 1\n"), (Net(12, []), "net 12\n"),
    (Net(3, [("low", 0, 1), ("high", 2, 0), ("sort", 1, 2), ("copy", 2, 1), ("add", 0, -3), ("add", 1, 0)]),
     "net 3\nlow 0 1\nhigh 2 0\nsort 1 2\ncopy 2 1\nadd 0 -3\nadd 1 0\n"),
    (Net(12, [("sort", 11, 10), ("add", 11, -HUGE)]), f"net 12\nsort 11 10\nadd 11 -{HUGE}\n"),
    (Family([((0, 3), (1, -4)), ((1, 0),)]), "family\nlot 0 3 1 -4\nlot 1 0\n"),
    (Family([((11, HUGE),), ((0, -HUGE),)]), f"family\nlot 0 -{HUGE}\nlot 11 {HUGE}\n"),
    (Family([tuple((lane, -lane) for lane in TWELVE)]),
     "family\nlot 0 0 1 -1 2 -2 3 -3 4 -4 5 -5 6 -6 7 -7 8 -8 9 -9 10 -10 11 -11\n"),
    (CoFamily([((0, 3), (1, -4)), ((2, 0),)]), "cofamily\nlot 0 3 1 -4\nlot 2 0\n"),
    (CoFamily([((0, 3), (1, -4)), ((1, -5),)]), "cofamily\nlot 0 3 1 -4\nlot 1 -5\n"),
    (Map.same(1), "map\nlane\nlot 0 0\n"),
    (Map([Family([((0, 2),), ((1, 2),)]), Family([((1, 0),)])]), "map\nlane\nlot 0 2\nlot 1 2\nlane\nlot 1 0\n"),
    (Map([Family([((11, 5),)])] * 12), "map\n" + "lane\nlot 11 5\n" * 12), (Spans(1), "spans 1\n"),
    (Spans(12), "spans 12\n"),
    (Spans(3, [(2, 0, -7), (0, 1, 2), (0, 1, 1), (0, 2, 0)]), "spans 3\nmost 0 1 1\nmost 0 2 0\nmost 2 0 -7\n"),
    (Spans(2, [(0, 1, -HUGE), (1, 0, -1)]), f"spans 2\nmost 0 1 -{HUGE}\nmost 1 0 -1\n"), ([0], "content 0\n"),
    ([3, -2], "content 3 -2\n"), ([-HUGE] + TWELVE[1:], f"content -{HUGE} 1 2 3 4 5 6 7 8 9 10 11\n"),
    ([4, None], "row 4 -\n"), ([None], "row -\n"), ([None] * 12, "row - - - - - - - - - - - -\n"),
    ([None, -1, HUGE], f"row - -1 {HUGE}\n"),
)
NOT_THINGS = NOT_LISTS[:9] + (
    [], (), [1] * 13, [None] * 13, [True], [0, False], [None, True], ["0"], [[0]], [(0,)], [0, "-"], {0: None},
    ((0, 3),), [((0, 3),)], [Family([((0, 3),)])], ("low", 0, 1), "net 1\n", {"net": 1}, object(),
)


def drawn_things(times):
    """Things of all seven kinds, with few lanes and many, and with numbers of up to thirty digits."""
    for net, draw in drawn_nets(times, 12, 12):
        yield net
        yield draw.content(net.lanes, draw.pick((1, 20, HUGE)))
        yield draw.row(net.lanes, draw.pick((1, 20, HUGE)))
    for kind in (Family, CoFamily):
        for one, other, _ in drawn_families(times, 8, 12, kind):
            yield one
            yield other
    for families, _ in drawn_charts(times, 4, 12):
        yield Map(families)
    for lanes, told, _ in drawn_spans(times, 6):
        yield Spans(lanes, told)


class Written(Case):
    def test_examples(self):
        self.same([written(Net(2, [("low", 0, 1), ("add", 0, -2)])), written(Family([((0, 3), (1, -4)), ((1, 0),)])),
                   written([4, None])],
                  ["net 2\nlow 0 1\nadd 0 -2\n", "family\nlot 0 3 1 -4\nlot 1 0\n", "row 4 -\n"])
        self.same([read("spans 2\nmost 0 1 -5\n"), read("content 3 -2\n"),
                   read("map\nlane\nlot 1 0\nlane\nlot 0 5\n")([7, 1])], [Spans(2, [(0, 1, -5)]), [3, -2], [1, 12]])

    def test_each_kind_by_hand(self):
        for thing, text in FORMS:
            self.same([written(thing), written(thing=thing), read(text), read(text=text)], [text, text, thing, thing])
            self.assertIs(type(read(text)), type(thing))

    def test_tuples_are_contents_and_rows(self):
        self.same([written((3, -2)), written((4, None)), written((None,)), read("row 4 -\n"), read("content 3\n")],
                  ["content 3 -2\n", "row 4 -\n", "row -\n", [4, None], [3]])

    def test_written_and_read_again(self):
        seen = {}
        for thing in drawn_things(60):
            text = written(thing)
            again = read(text)
            self.same([again, written(again)], [thing, text])
            self.assertIs(type(again), type(thing))
            # Each line ends, none has a blank too many.
            self.assertTrue(text.endswith("\n") and not any(mark in text for mark in ("\n\n", "  ", " \n", "\n ")))
            seen[text.split("\n")[0].split(" ")[0]] = True
        self.assertEqual(sorted(seen), ["cofamily", "content", "family", "map", "net", "row", "spans"])

    def test_lots_of_one_lane_and_of_all(self):
        for lot in LOTS:
            for kind in (Family, CoFamily):
                self.same(read(written(kind([lot]))), kind([lot]))

    def test_full_ones(self):
        net = Draw(3).net(12, 400)
        for kind in (Family, CoFamily):
            full = kind(antichain(60))
            self.same([len(full), read(written(full))], [60, full])
        self.same([read(written(net)), len(written(net).split("\n"))], [net, 402])
        pairs = [(i, j, i - j) for i in TWELVE for j in TWELVE if i != j]
        self.same([read(written(Spans(12, pairs))), len(written(Spans(12, pairs)).split("\n"))],
                  [Spans(12, pairs), 134])
        whole = Map([Family(antichain(60))] * 12)
        self.same(read(written(whole)), whole)

    def test_told_differences_are_written_not_the_closed_ones(self):
        held = Spans(3, [(0, 1, 2), (1, 2, -1), (0, 2, 5)])
        self.same([written(held), written(held.closed())], ["spans 3\nmost 0 1 2\nmost 0 2 5\nmost 1 2 -1\n",
                                                            "spans 3\nmost 0 1 2\nmost 0 2 1\nmost 1 2 -1\n"])
        self.same(read(written(held)).differences(), held.differences())

    def test_no_things(self):
        for value in NOT_THINGS:
            self.fails(InvalidThing, {"value": value}, written, value)

    def test_what_was_read_is_new(self):
        told = read("row 4 -\n")
        told.append(5)
        self.same(read("row 4 -\n"), [4, None])
        content = [1, 2]
        text = written(content)
        content[0] = 9
        self.same(text, "content 1 2\n")

    def test_no_strings(self):
        for value in NOT_THINGS + (0, [0], [4, None], b"net 1\n", ["net 1\n"], ("net 1", ""), Net(1)):
            if not isinstance(value, str):
                self.fails(InvalidText, {"line": 0}, read, value)

"""lanelots.readers: which line of a text is the wrong one (point 92)."""

from lanelots.errors import InvalidText
from lanelots.families import CoFamily, Family
from lanelots.maps import Map
from lanelots.nets import Net
from lanelots.readers import read
from lanelots.texts import written
from tests import text_oracle as oracle
from tests.helpers import HUGE, Case, Draw, antichain
from tests.test_texts import FORMS, drawn_things

# Texts with the wrong line of each.
WRONG = (
    ("", 1), ("\n", 1), ("net 2", 1), ("net", 1), ("net\n", 1), ("net 2\n\n", 2), ("net 2\nlow 0 1", 2),
    ("\nnet 2\n", 1), ("net 0\n", 1), ("net 13\n", 1), ("net -1\n", 1), ("net 02\n", 1), ("net  2\n", 1),
    (" net 2\n", 1), ("net 2 \n", 1), ("net 2 2\n", 1), ("net two\n", 1), ("net -\n", 1), ("Net 2\n", 1),
    ("nets 2\n", 1), ("net +2\n", 1), ("net 2_0\n", 1), ("net 2\nlow 0 1\n\n", 3), ("net 2\nlow 0 2\n", 2),
    ("net 2\nlow 0 0\n", 2), ("net 2\nlow 0\n", 2), ("net 2\nlow 0 1 1\n", 2), ("net 2\nlow 0 -1\n", 2),
    ("net 2\nlow 0 01\n", 2), ("net 2\nlow 0  1\n", 2), ("net 2\nadd 0 1\nadd 0 -0\n", 3), ("net 2\nadd 0 00\n", 2),
    ("net 2\nadd 0 007\n", 2), ("net 2\nadd 0 -07\n", 2), ("net 2\nadd 0 --1\n", 2), ("net 2\nadd 0 +1\n", 2),
    ("net 2\nadd 0 1.0\n", 2), ("net 2\nadd 0 -\n", 2), ("net 2\nadd -0 1\n", 2), ("net 2\nadd 2 1\n", 2),
    ("net 2\nmul 0 1\n", 2), ("net 2\nlane\n", 2), ("net 1\nsort 0 1\n", 2), ("net 2\nlow 0 1\nbad\nlow 0 2\n", 3),
    ("net 2\nnet 2\n", 2), ("net 2\nLow 0 1\n", 2), ("net 2\nlow\n", 2), ("family\n", 2), ("family", 1),
    ("family 1\n", 1), ("family \n", 1), ("family\n\n", 2), ("family\nlot\n", 2), ("family\nlot 0\n", 2),
    ("family\nlot 0 1 2\n", 2), ("family\nlot 12 0\n", 2), ("family\nlot -1 0\n", 2), ("family\nlot 1 0 0 0\n", 2),
    ("family\nlot 0 0 0 0\n", 2), ("family\nlot 0 0 0 1\n", 2), ("family\nlot 0 -\n", 2),
    ("family\nlot 0 1\nlot 0 1\n", 3), ("family\nlot 1 0\nlot 0 0\n", 3), ("family\nlot 0 1\nlot 0 2\n", 3),
    ("family\nlot 0 1\nlot 0 1 1 0\n", 3), ("family\nlot 0 0 1 0\nlot 1 0\n", 3),
    ("family\nlot 0 0 1 0\nlot 1 -1\n", 3), ("family\nlot 0 0 1 0\nlot 0 1 1 0\n", 3),
    ("family\nlot 0 0 1 0\nlot 1 1", 3), ("family\nlot 0 0\nfamily\n", 3), ("family\nlot 0 0\n\n", 3),
    ("family\nlane\nlot 0 0\n", 2), ("family\nlots 0 0\n", 2), ("family\nlot 0 0\nlot 1 0 \n", 3), ("cofamily\n", 2),
    ("cofamily\nlot 0 1\nlot 0 2\n", 3), ("cofamily\nlot 0 0 1 0\nlot 1 0\n", 3),
    ("cofamily\nlot 0 0 1 0\nlot 1 1\n", 3), ("cofamily\nlot 0 0 1 0\nlot 0 1 1 0\n", 3),
    ("cofamily\nlot 1 0\nlot 0 0\n", 3), ("coFamily\nlot 0 0\n", 1), ("cofamily\nlot 0 1\nlot 0 1\n", 3),
    ("cofamily 2\n", 1), ("map\n", 2), ("map", 1), ("map 2\n", 1), ("map\nlot 0 0\n", 2), ("map\nlane\n", 3),
    ("map\nlane\nlane\n", 3), ("map\nlane 0\nlot 0 0\n", 2), ("map\nlane\nlot 1 0\n", 4),
    ("map\nlane\nlot 0 0\nlane\n", 5), ("map\n\n", 2), ("map\nlane\nlot 11 0\nlane\nlot 0 0\n", 6),
    ("map\nlane\nlot 12 0\n", 3), ("map\nlane\nlot 0 0\nlot 0 0\n", 4),
    ("map\nlane\nlot 0 0\nlane\nlot 1 0\nlot 0 0\n", 6), ("map\nlane\nlot 0 0\n\n", 4),
    ("map\nlane\nlot 1 0\nlane", 4), ("map\nlane\nlot 0 0\nlane\nlot 2 0\n", 6),
    ("map\n" + "lane\nlot 0 0\n" * 12 + "lane\n", 26), ("map\n" + "lane\nlot 11 0\n" * 11, 24),
    ("map\nlane\nlot 0 0\nlane\nlot 0 0\nlot 1 0\nlot 0 5\n", 7), ("spans\n", 1), ("spans 0\n", 1), ("spans 13\n", 1),
    ("spans 2 2\n", 1), ("spans 2\nmost 0 1\n", 2), ("spans 2", 1), ("spans 2\nmost 0 1 0\nmost 0 1 0\n", 3),
    ("spans 2\nmost 0 1 0\nmost 0 1 1\n", 3), ("spans 2\nmost 1 0 0\nmost 0 1 0\n", 3), ("spans 2\nmost 0 0 0\n", 2),
    ("spans 2\nmost 0 2 0\n", 2), ("spans 2\nmost 0 1 -\n", 2), ("spans 2\nmost 0 1 0 0\n", 2),
    ("spans 1\nmost 0 1 0\n", 2), ("spans 2\nleast 0 1 0\n", 2), ("spans 2\nmost 0 1 -0\n", 2), ("spans 2\n\n", 2),
    ("spans 3\nmost 0 1 0\nmost 2 0 0\nmost 1 2 0\n", 4), ("spans 2\nmost -0 1 0\n", 2), ("spans 2\nmost 0 1 0\n ", 3),
    ("content\n", 1), ("content 1", 1), ("content 1\n\n", 2), ("content 1\n2\n", 2), ("content -\n", 1),
    ("content 1 -\n", 1), ("content 01\n", 1), ("content -0\n", 1), ("content 1  2\n", 1), ("content 1 2 \n", 1),
    ("content a\n", 1), ("content 1 2 3 4 5 6 7 8 9 10 11 12 13\n", 1), ("content 1\ncontent 1\n", 2),
    ("content 1,2\n", 1), ("content 1\nx", 2), ("row 1\n", 1), ("row\n", 1), ("row -", 1),
    ("row - 0 - 0 - 0 - 0 - 0 - 0 -\n", 1), ("row --\n", 1), ("row -0 -\n", 1), ("row 1 2\n", 1),
    ("row 1 -\nrow 1 -\n", 2), ("row -  1\n", 1), ("row - 01\n", 1), ("rows -\n", 1), ("row - x\n", 1), ("0\n", 1),
    ("-\n", 1), ("lot 0 0\n", 1), ("low 0 1\n", 1), ("lane\n", 1), ("most 0 1 0\n", 1), (" ", 1), ("thing\n", 1),
    ("net\n2\n", 1), ("family lot 0 0\n", 1), ("x" * 300, 1), (" \n", 1), ("map\n ", 2), ("-1", 1),
)


class Readers(Case):
    def wrong(self, text, line):
        self.fails(InvalidText, {"line": line}, read, text)
        self.same(oracle.wrong_line(text), line)

    def test_each_wrong_line_by_hand(self):
        for text, line in WRONG:
            self.wrong(text, line)

    def test_each_place_at_which_a_form_ends_too_early(self):
        for thing, text in FORMS:
            self.same(oracle.wrong_line(text), None)
            for many in range(len(text)):
                early = text[:many]
                wanted = oracle.wrong_line(early)
                if wanted is None:
                    self.same(written(read(early)), early)
                else:
                    self.wrong(early, wanted)

    def test_one_sign_otherwise(self):
        seen = {True: 0, False: 0}
        for number, (thing, text) in enumerate(FORMS):
            draw = Draw(number)
            for _ in range(120):
                place = draw.below(len(text))
                sign = draw.pick(" \n-0123x")
                for other in (text[:place] + sign + text[place + 1:], text[:place] + sign + text[place:],
                              text[:place] + text[place + 1:]):
                    self.told(other, seen)
        self.assertGreater(min(seen.values()), 400, seen)

    def test_one_line_or_one_word_otherwise(self):
        seen = {True: 0, False: 0}
        draw = Draw(1)
        texts = [written(thing) for thing in drawn_things(25)]
        for text in texts:
            for _ in range(6):
                lines = text.split("\n")[:-1]
                place = draw.below(len(lines))
                words = lines[place].split(" ")
                words[draw.below(len(words))] = draw.pick(("0", "1", "2", "11", "12", "-1", "-", "low", "lot", "net",
                                                           ""))
                strange = draw.pick(draw.pick(texts).split("\n")[:-1])
                twice = lines[:place + 1] + lines[place:]
                for other in (lines[:place] + [" ".join(words)] + lines[place + 1:], twice,
                              lines[:place] + lines[place + 1:],
                              lines[:place] + [strange] + lines[place:], lines[::-1], lines[:place] + lines[:place:-1],
                              lines + [strange], lines[:place]):
                    self.told("".join([line + "\n" for line in other]), seen)
                self.told(text + draw.pick(texts), seen)
        self.assertGreater(min(seen.values()), 200, seen)

    def told(self, text, seen):
        wanted = oracle.wrong_line(text)
        seen[wanted is None] += 1
        if wanted is None:
            self.same(written(read(text)), text)
        else:
            self.fails(InvalidText, {"line": wanted}, read, text)

    def test_four_hundred_gates_and_one_more(self):
        net = Draw(5).net(3, 400)
        for line, wrong in (("low 0 1", 402), ("", 402), ("low 0 3", 402)):
            self.wrong(written(net) + line + "\n", wrong)
        self.wrong(written(net) + "low 0 1", 402)
        self.wrong(written(net)[:-1], 401)
        self.same(len(read(written(net))), 400)

    def test_sixty_lots_and_one_more(self):
        for kind, word in ((Family, "family"), (CoFamily, "cofamily")):
            text = written(kind(antichain(60)))
            self.same(len(read(text)), 60)
            self.wrong(text + "lot 0 60 1 -60\n", 62)
            self.wrong(text + "lot 0 60 1 -60", 62)
            self.same(len(read(text.replace("lot 0 59 1 -59\n", ""))), 59)
            self.assertTrue(text.startswith(word + "\n"))
        text = "map\nlane\nlot 0 0\nlane\n" + written(Family(antichain(60)))[len("family\n"):]
        self.same(len(read(text)[1]), 60)
        self.wrong(text + "lot 0 60 1 -60\n", 65)

    def test_twelve_lanes_and_one_more(self):
        text = written(Map.same(12))
        self.same([read(text), read(written(Net(12))), read("content" + " 0" * 12 + "\n")],
                  [Map.same(12), Net(12), [0] * 12])
        self.wrong(text + "lane\n", 26)
        self.wrong(text + "lot 11 0\n", 26)
        self.wrong(text + "lot 11 1\n", 26)
        self.wrong("content" + " 0" * 13 + "\n", 1)
        self.wrong("row" + " -" * 13 + "\n", 1)

    def test_long_numbers(self):
        self.same([read(f"content {HUGE} -{HUGE}\n"), read(f"spans 2\nmost 1 0 {-HUGE}\n").number(1, 0)],
                  [[HUGE, -HUGE], -HUGE])
        self.wrong(f"content 0{HUGE}\n", 1)
        self.wrong(f"net {HUGE}\n", 1)
        self.wrong(f"net 2\nlow 0 {HUGE}\n", 2)
        self.wrong(f"family\nlot {HUGE} 0\n", 2)

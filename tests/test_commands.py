"""lanelots.commands: which lines are commands, their words, and which of them are changes (point 95)."""

from lanelots.commands import is_change, words_of
from lanelots.errors import InvalidCommand
from tests.helpers import HUGE, NO_PAPERS, Case

CHANGES = (
    "gate new net low 0 1", "gate new net high 11 0", "gate a a sort 0 1", "gate n1 n2 copy 3 4",
    "gate new net add 0 -2",
    "gate new net add 0 0", "gate new net low 0 0", "gate new net low 12 99", f"gate new net add {HUGE} -{HUGE}",
    "without new net 0", f"without new net {HUGE}", "raise new thing 5", "raise new thing -5", "raise new thing 0",
    "rounds new thing 0", "rounds new thing 60", "lane new map 0", "lane new map 99", "make new copy thing",
    "make new turned thing", "make new other thing", "make new map net", "make new behind one two",
    "make new beside one two", "make new least one two", "make new greatest one two", "make new both one two",
    "make new after spans map", "make make copy make", "drop name", "renew note",
    "drop drop", "make map map map", "gate gate gate low 0 1", "make abcdefghijkl copy z0123456789z",
)
OTHERS = (
    "look note", "told note", "answer thing 3,-2,0", "answer thing 0", "answer thing -7",
    "answer thing 0,1,2,3,4,5,6,7,8,9,10,11", f"answer thing {HUGE},-{HUGE}", "unlike one other", "unlike one one",
    "pace map 0", "pace map 7", "undo", "redo", "look look", "answer answer 1,1",
)
NO_COMMANDS = (
    "", " ", "\n", "undo ", " undo", "undo\n", "undo undo", "Undo", "redo 1", "do", "change name", "names", "put name",
    "note name", "gate new net low 0", "gate new net low 0 1 2", "gate new net low 0 -1", "gate new net low 00 1",
    "gate new net low 0 x", "gate new net low -0 1", "gate new net mul 0 1", "gate new net Low 0 1",
    "gate new net add 0", "gate new net add -1 5", "gate new net add 0 -0", "gate new net add 0 1,2",
    "gate new net add 0 -", "gate new net 0 1 low", "gate net low 0 1", "gate  new net low 0 1",
    "gate new net low 0  1", "gate New net low 0 1", "gate 1new net low 0 1", "gate new Net low 0 1",
    "gate new net add 0 +1", "gate new net add 0 1.5", "gate new net add 0 05", "gate new net lo 0 1", "gate",
    "gate new", "gate new net add", "without new net", "without new net -1", "without new net 0 0",
    "without new net x", "without new net 01", "without new 0", "without", "raise new thing", "raise new thing x",
    "raise new thing -", "raise new thing 1 1", "raise new thing 1,1", "raise new thing -00", "raise new thing --1",
    "raise thing 5", "raise", "rounds new thing -1", "rounds new thing", "rounds new thing 1 1",
    "rounds new thing 1,1", "rounds new", "rounds", "lane new map -1", "lane new map", "lane new map L", "lane new 1",
    "lane", "make", "make new", "make new copy", "make new copy one two", "make new behind one",
    "make new behind one two three", "make new and one two", "make new Copy thing", "make new  copy thing",
    "make new copy  thing", "make new copy Thing", "make copy thing", "make new turned one two", "make new both one",
    "make new after spans", "make new map", "make new copy 0", "make new other", "make new least one",
    "make new beside one two ", "drop", "drop one two", "drop Name", "drop 1", "drop a_b", "drop a-b",
    "drop abcdefghijklm", "drop ", "drop  name", "renew", "renew note note", "renew Note", "look", "look note 1",
    "look -", "told", "told a b", "told 9a", "answer thing", "answer thing 1, 2", "answer thing ,", "answer 1",
    "answer thing 1,", "answer thing ,1", "answer thing 1,,2", "answer thing 0,1,2,3,4,5,6,7,8,9,10,11,12",
    "answer thing -", "answer thing 1,-", "answer thing 01", "answer thing 1,-0", "answer thing 1;2",
    "answer thing [1,2]", "answer thing 1 2", "answer thing 1 ,2", "answer thing a,b", "answer thing 1.0", "unlike",
    "unlike one", "unlike one two three", "unlike One two", "unlike one 2", "pace map", "pace map -1", "pace map 0 0",
    "pace map x", "pace 0", "pace Map 0", "raise new\nthing 5", "drop a\n", "undo redo", "make new copy thing\n",
    "gate new net low 0 1\n",
)


class Commands(Case):
    def test_words(self):
        for command in CHANGES + OTHERS:
            self.same([words_of(command), words_of(command=command)], [command.split(" ")] * 2)
            self.same([is_change(command), is_change(command=command)], [command in CHANGES] * 2)

    def test_no_commands(self):
        for value in NO_COMMANDS:
            self.fails(InvalidCommand, {"value": value}, words_of, value)
            self.fails(InvalidCommand, {"value": value}, is_change, value)

    def test_values_of_every_kind(self):
        for value in NO_PAPERS + (["undo"], ("undo",), b"undo", {"undo": 1}, ["drop", "name"]):
            self.fails(InvalidCommand, {"value": value}, words_of, value)
            self.fails(InvalidCommand, {"value": value}, is_change, value)

    def test_a_word_less_and_a_word_more(self):
        for command in CHANGES + OTHERS:
            words = command.split(" ")
            for other in (words[:-1], words + ["x"], words + [""], [""] + words, words[:1] + words, words + words[-1:]):
                line = " ".join(other)
                # A line of two words alone has names that may be left out or put in nowhere.
                self.fails(InvalidCommand, {"value": line}, words_of, line)

    def test_each_word_otherwise(self):
        for command in CHANGES + OTHERS:
            words = command.split(" ")
            for place in range(len(words)):
                for odd in ("A", "", "a.", "-", "a,1", "0x1", "thirteensigns"):
                    line = " ".join(words[:place] + [odd] + words[place + 1:])
                    self.fails(InvalidCommand, {"value": line}, words_of, line)

    def test_names(self):
        for name in ("a", "z", "a0", "z9", "abcdefghijkl", "a12345678901", "undo", "low", "net"):
            self.same(words_of("drop " + name), ["drop", name])
        for name in ("", "0", "0a", "abcdefghijklm", "a123456789012", "A", "aB", "a b", "a_", "a-", "a.", "a\n", "-",
                     ",", "a,b"):
            self.fails(InvalidCommand, {"value": "drop " + name}, words_of, "drop " + name)

    def test_words_are_new(self):
        words_of("drop name").append("spoiled")
        self.same(words_of("drop name"), ["drop", "name"])

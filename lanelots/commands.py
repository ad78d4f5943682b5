"""Commands: lines whose words tell what is done with the things and notes of a bench."""

from lanelots.basics import LANES_AT_MOST
from lanelots.errors import InvalidCommand
from lanelots.texts import count_of, number_of

_LONGEST_NAME = 12
_LETTERS = "abcdefghijklmnopqrstuvwxyz"
_DIGITS = "0123456789"

# What the words behind the first one are.
_FORMS = {
    "gate": ("name", "name", "kind", "count", "count"),
    "without": ("name", "name", "count"),
    "raise": ("name", "name", "number"),
    "rounds": ("name", "name", "count"),
    "lane": ("name", "name", "count"),
    "make": ("name", "how", "name"),
    "drop": ("name",),
    "renew": ("name",),
    "look": ("name",),
    "told": ("name",),
    "answer": ("name", "content"),
    "unlike": ("name", "name"),
    "pace": ("name", "count"),
    "undo": (),
    "redo": (),
}
_ADD_FORM = ("name", "name", "kind", "count", "number")
_TWO_THINGS_FORM = ("name", "how", "name", "name")
_KINDS = ("low", "high", "sort", "copy", "add")
_HOWS_OF_ONE = ("copy", "turned", "other", "map")
_HOWS_OF_TWO = ("behind", "beside", "least", "greatest", "both", "after")
_CHANGES = ("gate", "without", "raise", "rounds", "lane", "make", "drop", "renew")


def words_of(command):
    """The list of the words of the command."""
    words = command.split(" ") if isinstance(command, str) else [""]
    form = _form_of(words)
    if form is None or len(words) != len(form) + 1:
        raise InvalidCommand(command)
    if not all([_is_word(word, kind) for word, kind in zip(words[1:], form)]):
        raise InvalidCommand(command)
    return words


def is_change(command):
    """Whether the command is a change."""
    return words_of(command)[0] in _CHANGES


def is_name(value):
    """Whether any value is a NAME."""
    if not isinstance(value, str) or not 1 <= len(value) <= _LONGEST_NAME or value[0] not in _LETTERS:
        return False
    return all([sign in _LETTERS or sign in _DIGITS for sign in value])


def content_of(word):
    """The content that is written so, with commas between its numbers; None for any other word."""
    numbers = [number_of(part) for part in word.split(",")]
    return None if None in numbers or len(numbers) > LANES_AT_MOST else numbers


def _form_of(words):
    """What the words behind the first one must be; None without such a command."""
    if words[0] == "gate" and words[3:4] == ["add"]:
        return _ADD_FORM
    if words[0] == "make" and len(words) > 2 and words[2] in _HOWS_OF_TWO:
        return _TWO_THINGS_FORM
    return _FORMS.get(words[0])


def _is_word(word, kind):
    """Whether the word is of this kind."""
    if kind == "name":
        return is_name(word)
    if kind == "kind":
        return word in _KINDS
    if kind == "how":
        return word in _HOWS_OF_ONE or word in _HOWS_OF_TWO
    if kind == "content":
        return content_of(word) is not None
    if kind == "count":
        return count_of(word) is not None
    return number_of(word) is not None


def things_told(words):
    """The names of the things, in sequence, that the words of a command other than undo and redo tell."""
    if words[0] == "make":
        return words[3:]
    if words[0] == "unlike":
        return words[1:]
    return words[2:3] if words[0] in _CHANGES else words[1:2]

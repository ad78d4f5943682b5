"""What the commands make of things, and what they answer."""

from lanelots.commands import content_of
from lanelots.errors import WrongThing
from lanelots.families import CoFamily, Family
from lanelots.gaps import behind
from lanelots.maps import Map
from lanelots.nets import Net
from lanelots.pace import pace
from lanelots.spans import Spans
from lanelots.texts import number_of
from lanelots.told import map_of, unlike

# The kinds of the first thing, by the word of the command or by its HOW. A second one is of the same kind.
_KINDS_WANTED = {
    "gate": ("net",),
    "without": ("net",),
    "raise": ("family", "cofamily"),
    "rounds": ("net", "map"),
    "lane": ("map",),
    "copy": ("net", "family", "cofamily", "map", "spans"),
    "turned": ("net", "family", "cofamily", "map"),
    "other": ("family", "cofamily"),
    "map": ("net",),
    "behind": ("net", "map"),
    "beside": ("net", "map"),
    "least": ("family", "cofamily"),
    "greatest": ("family", "cofamily"),
    "both": ("spans",),
    "after": ("spans",),
    "answer": ("net", "family", "cofamily", "map", "spans"),
    "unlike": ("net",),
    "pace": ("map",),
}


def kind_of(thing):
    """The kind of a thing; None for any other value."""
    if isinstance(thing, Net):
        return "net"
    if isinstance(thing, Family):
        return "family"
    if isinstance(thing, CoFamily):
        return "cofamily"
    if isinstance(thing, Map):
        return "map"
    return "spans" if isinstance(thing, Spans) else None


def check_kinds(words, names, things):
    """WrongThing with the name of the first of the things that is of no kind wanted."""
    key = words[2] if words[0] == "make" else words[0]
    wanted = _KINDS_WANTED[key]
    for name, thing in zip(names, things):
        kind = kind_of(thing)
        if kind not in wanted:
            raise WrongThing(name)
        wanted = ("map",) if key == "after" else (kind,)


def made(words, things):
    """The thing that a change makes of these ones."""
    word, thing = words[0], things[0]
    if word == "gate":
        return thing.with_gate(len(thing), (words[3], number_of(words[4]), number_of(words[5])))
    if word == "without":
        return thing.without(number_of(words[3]))
    if word == "raise":
        return thing + number_of(words[3])
    if word == "rounds":
        return thing * number_of(words[3])
    if word == "lane":
        return thing[number_of(words[3])]
    return _made_of_one(words[2], thing) if len(things) == 1 else _made_of_two(words[2], thing, things[1])


def _made_of_one(how, thing):
    if how == "turned":
        return -thing
    if how == "other":
        return ~thing
    return map_of(thing) if how == "map" else thing


def _made_of_two(how, one, two):
    if how == "behind":
        return one + two
    if how == "beside":
        return one.beside(two)
    if how == "greatest":
        return one | two
    return behind(one, two) if how == "after" else one & two


def answered(words, things):
    """What is answered of these things, a string."""
    if words[0] == "unlike":
        found = unlike(things[0], things[1])
        return "-" if found is None else str(found[0])
    if words[0] == "pace":
        return " ".join([str(number) for number in pace(things[0], number_of(words[2]))])
    return _answered_of(things[0], content_of(words[2]))


def _answered_of(thing, content):
    """What the thing tells of the content."""
    if isinstance(thing, Spans):
        return "fits" if content in thing else "lacks"
    told = thing(content)
    return ",".join([str(number) for number in told]) if isinstance(thing, (Net, Map)) else str(told)

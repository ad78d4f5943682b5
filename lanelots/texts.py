"""The written form of nets, families, co-families, maps, spans, contents and rows, and of numbers in it."""

from lanelots.basics import is_content, is_row
from lanelots.errors import InvalidThing
from lanelots.families import CoFamily, Family
from lanelots.maps import Map
from lanelots.nets import Net
from lanelots.spans import Spans


def written(thing):
    """The written form of the thing."""
    return "".join([line + "\n" for line in _lines_of(thing)])


def _lines_of(thing):
    """The lines of the written form, without their line feeds."""
    if isinstance(thing, Net):
        return [_line("net", [thing.lanes])] + [_line(gate[0], gate[1:]) for gate in thing.gates()]
    if isinstance(thing, Family):
        return ["family"] + _lot_lines(thing)
    if isinstance(thing, CoFamily):
        return ["cofamily"] + _lot_lines(thing)
    if isinstance(thing, Map):
        return ["map"] + [line for family in thing.families() for line in ["lane"] + _lot_lines(family)]
    if isinstance(thing, Spans):
        return [_line("spans", [thing.lanes])] + [_line("most", told) for told in thing.differences()]
    if is_content(thing):
        return [_line("content", thing)]
    if is_row(thing):
        return [_line("row", ["-" if number is None else number for number in thing])]
    raise InvalidThing(thing)


def _lot_lines(family):
    return [_line("lot", [number for part in lot for number in part]) for lot in family.lots()]


def _line(word, parts):
    return " ".join([word] + [str(part) for part in parts])


def number_of(word):
    """The number that is written so; None for any other word."""
    digits = word[1:] if word.startswith("-") else word
    if not digits.isascii() or not digits.isdigit():
        return None
    number = int(word)
    return number if str(number) == word else None


def count_of(word):
    """The COUNT that is written so; None for any other word."""
    number = number_of(word)
    return None if number is None or number < 0 else number

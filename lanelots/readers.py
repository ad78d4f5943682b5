"""Written forms read again: the thing that has one, or the line that is wrong."""

from lanelots.basics import LANES_AT_MOST, is_lane
from lanelots.errors import InvalidText
from lanelots.families import CoFamily, Family
from lanelots.lots import MOST_LOTS, first_over, first_under, is_lot, lanes_in
from lanelots.maps import Map
from lanelots.nets import Net, is_gate
from lanelots.spans import Spans
from lanelots.texts import count_of, number_of


def read(text):
    """The thing that has this written form."""
    if not isinstance(text, str):
        raise InvalidText(0)
    *lines, rest = text.split("\n")
    rows = [line.split(" ") for line in lines]
    thing = _thing_of(rows) if rows else None
    # What has no line feed behind it is a wrong line, and so is the one behind the last one if lines lack.
    if thing is None or rest != "":
        raise InvalidText(len(rows) + 1)
    return thing


def _thing_of(rows):
    """The thing that has lines of these words; None if lines lack behind them."""
    word = rows[0][0]
    if word == "net":
        return _net_of(rows)
    if word == "family":
        lots = _lots_of(rows, False)
        return Family(lots) if lots else None
    if word == "cofamily":
        lots = _lots_of(rows, True)
        return CoFamily(lots) if lots else None
    if word == "map":
        return _map_of(rows)
    if word == "spans":
        return _spans_of(rows)
    return _numbers_of(rows)


def _net_of(rows):
    """The net of these lines."""
    lanes = _lanes_told(rows[0])
    gates = []
    for line, row in enumerate(rows[1:], start=2):
        gate = (row[0], *[number_of(word) for word in row[1:]])
        if not is_gate(gate, lanes) or len(gates) == Net.MOST_GATES:
            raise InvalidText(line)
        gates.append(gate)
    return Net(lanes, gates)


def _spans_of(rows):
    """The spans of these lines."""
    lanes = _lanes_told(rows[0])
    told = []
    for line, row in enumerate(rows[1:], start=2):
        numbers = [number_of(word) for word in row[1:]]
        if row[0] != "most" or not _is_next_difference(numbers, told, lanes):
            raise InvalidText(line)
        told.append(tuple(numbers))
    return Spans(lanes, told)


def _is_next_difference(numbers, told, lanes):
    """Whether these are two unlike lanes and a number, the lanes behind those of all differences ahead."""
    if len(numbers) != 3 or None in numbers or numbers[0] == numbers[1]:
        return False
    if not is_lane(numbers[0], lanes) or not is_lane(numbers[1], lanes):
        return False
    return told == [] or told[-1][:2] < tuple(numbers[:2])


def _lanes_told(row):
    """How many lanes the first line tells."""
    lanes = count_of(row[1]) if len(row) == 2 else None
    if lanes is None or not 1 <= lanes <= LANES_AT_MOST:
        raise InvalidText(1)
    return lanes


def _lots_of(rows, is_co):
    """The lots of a family or a co-family."""
    _check_alone(rows[0])
    lots = []
    for line, row in enumerate(rows[1:], start=2):
        lots.append(_next_lot(row, lots, line, is_co))
    return lots


def _map_of(rows):
    """The map of these lines; None if lots or lanes lack."""
    _check_alone(rows[0])
    tables = []
    for line, row in enumerate(rows[1:], start=2):
        if row == ["lane"]:
            if len(tables) == LANES_AT_MOST or [] in tables:
                raise InvalidText(line)
            tables.append([])
        elif tables:
            tables[-1].append(_next_lot(row, tables[-1], line, False))
        else:
            raise InvalidText(line)
    if tables == [] or [] in tables or lanes_in([lot for lots in tables for lot in lots])[-1] >= len(tables):
        return None
    return Map([Family(lots) for lots in tables])


def _check_alone(row):
    """InvalidText if there is more than one word in the first line."""
    if len(row) > 1:
        raise InvalidText(1)


def _next_lot(row, lots, line, is_co):
    """The lot of the line, behind these ones; InvalidText unless it may stand there."""
    lot = _lot_of(row)
    if lot is None or len(lots) == MOST_LOTS or (lots and lot <= lots[-1]):
        raise InvalidText(line)
    if is_co and (first_over(lots, lot) is not None or not all([first_over([lot], own) is None for own in lots])):
        raise InvalidText(line)
    if not is_co and (first_under(lots, lot) is not None or not all([first_under([lot], own) is None for own in lots])):
        raise InvalidText(line)
    return lot


def _lot_of(row):
    """The lot that the line tells; None if it tells none."""
    numbers = [number_of(word) for word in row[1:]]
    lot = tuple(zip(numbers[::2], numbers[1::2]))
    return lot if row[0] == "lot" and 2 * len(lot) == len(numbers) and is_lot(lot) else None


def _numbers_of(rows):
    """The content or the row of these lines."""
    word, words = rows[0][0], rows[0][1:]
    numbers = [None if own == "-" else number_of(own) for own in words]
    known = [own == "-" or number is not None for own, number in zip(words, numbers)]
    is_right = word == "row" if "-" in words else word == "content"
    if not is_right or not all(known) or not 1 <= len(words) <= LANES_AT_MOST:
        raise InvalidText(1)
    if len(rows) > 1:
        raise InvalidText(2)
    return numbers

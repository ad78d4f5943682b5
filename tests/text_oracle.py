"""What the document says of written forms and their wrong lines, by regular expressions, as a second opinion."""

import re

from tests import lot_oracle

NUMBER, COUNT = "(?:0|-?[1-9][0-9]*)", "(?:0|[1-9][0-9]*)"


def lanes_of(line, word):
    """How many lanes a first line of a net or of spans tells; None if it is none."""
    found = re.fullmatch(f"{word} ({COUNT})", line)
    return int(found[1]) if found and 1 <= int(found[1]) <= 12 else None


def gate_fits(line, lanes):
    added = re.fullmatch(f"add ({COUNT}) {NUMBER}", line)
    other = re.fullmatch(f"(?:low|high|sort|copy) ({COUNT}) ({COUNT})", line)
    if added:
        return int(added[1]) < lanes
    return bool(other) and other[1] != other[2] and max(int(other[1]), int(other[2])) < lanes


def lot_of(line):
    """The lot that a line tells; None if it tells none."""
    if not re.fullmatch(f"lot(?: {COUNT} {NUMBER})+", line):
        return None
    numbers = [int(word) for word in line.split(" ")[1:]]
    lot = tuple(zip(numbers[::2], numbers[1::2]))
    lanes = numbers[::2]
    return lot if lanes == sorted(set(lanes)) and lanes[-1] < 12 else None


def lots_fit(lots, is_co):
    """Whether so many lots may stand one behind another in a family, a co-family."""
    whole = lot_oracle.co_family if is_co else lot_oracle.family
    return None not in lots and len(lots) <= 60 and whole(lots) == lots


def tables_of(lines):
    """The lists of lots behind each line "lane"; None if the first line is another one."""
    tables = []
    for line in lines:
        if line == "lane":
            tables.append([])
        elif not tables:
            return None
        else:
            tables[-1].append(lot_of(line))
    return tables


def map_fits(lines):
    tables = tables_of(lines)
    if tables is None or len(tables) > 12:
        return False
    return all(lots_fit(lots, False) for lots in tables) and [] not in tables[:-1]


def spans_fit(lines, lanes):
    pairs = []
    for line in lines:
        found = re.fullmatch(f"most ({COUNT}) ({COUNT}) {NUMBER}", line)
        if not found or found[1] == found[2] or max(int(found[1]), int(found[2])) >= lanes:
            return False
        pairs.append((int(found[1]), int(found[2])))
    return pairs == sorted(set(pairs))


def is_viable(lines):
    """Whether some written form begins with these lines, one at least."""
    first, rest = lines[0], lines[1:]
    if lanes_of(first, "net"):
        return len(rest) <= 400 and all(gate_fits(line, lanes_of(first, "net")) for line in rest)
    if first in ("family", "cofamily"):
        return lots_fit([lot_of(line) for line in rest], first == "cofamily")
    if first == "map":
        return map_fits(rest)
    if lanes_of(first, "spans"):
        return spans_fit(rest, lanes_of(first, "spans"))
    is_content = re.fullmatch(f"content(?: {NUMBER}){{1,12}}", first)
    is_row = re.fullmatch(f"row(?: (?:{NUMBER}|-)){{1,12}}", first) and "-" in first.split(" ")
    return bool(is_content or is_row) and not rest


def is_whole(lines):
    """Whether these lines, of which some written form has all, are one."""
    if lines[0] in ("family", "cofamily"):
        return len(lines) > 1
    if lines[0] != "map":
        return True
    tables = tables_of(lines[1:])
    lanes = [lane for lots in tables for lot in lots for lane, _ in lot]
    return bool(tables) and [] not in tables and max(lanes) < len(tables)


def wrong_line(text):
    """The number of the wrong line; None for a written form."""
    *lines, rest = text.split("\n")
    for many in range(1, len(lines) + 1):
        if not is_viable(lines[:many]):
            return many
    return None if lines and rest == "" and is_whole(lines) else len(lines) + 1

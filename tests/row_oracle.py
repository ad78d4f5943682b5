"""What the document says of ceilings, floors, heads, feet, ladders and boxes, without haste, as a second opinion."""

import itertools


def key(row):
    return tuple((0, 0) if number is None else (1, number) for number in row)


def below(row, ceiling):
    return all(most is None or own is not None and own <= most for own, most in zip(row, ceiling))


def above(row, floor):
    return all(least is None or own is not None and own >= least for own, least in zip(row, floor))


def at_ceiling(tables, row):
    found = []
    for lots in tables:
        values = [max(row[lane] + number for lane, number in lot) for lot in lots
                  if all(row[lane] is not None for lane, _ in lot)]
        found.append(min(values, default=None))
    return found


def at_floor(tables, row):
    found = []
    for lots in tables:
        values = [max([row[lane] + number for lane, number in lot if row[lane] is not None], default=None)
                  for lot in lots]
        found.append(None if None in values else min(values))
    return found


def lessened(row, lot, most):
    found = list(row)
    for lane, number in lot:
        found[lane] = most - number if found[lane] is None else min(found[lane], most - number)
    return found


def highest(rows):
    """Those of the ceilings that lie below no other one, sorted."""
    once = {key(row): list(row) for row in rows}
    kept = [row for row in once.values() if not any(below(row, other) for other in once.values() if other != row)]
    return sorted(kept, key=key)


def ladder(tables, row):
    """For each lane the heads for the ceiling with None on all lanes behind it, however many there are."""
    found, now = [], [[None] * len(row)]
    for lots, most in zip(tables, row):
        if most is not None:
            now = highest([lessened(ceiling, lot, most) for ceiling in now for lot in lots])
        found.append(now)
    return found


def feet_by_lanes(tables, row):
    """Likewise with feet: for each lot some lane has to be high enough."""
    found, now = [], [[None] * len(row)]
    for lots, least in zip(tables, row):
        for lot in lots if least is not None else []:
            wider = []
            for floor in now:
                for lane, number in lot:
                    raised = list(floor)
                    own = least - number
                    raised[lane] = own if floor[lane] is None else max(own, floor[lane])
                    wider.append(raised)
            once = {key(own): own for own in wider}
            now = [own for own in once.values() if not any(above(own,
                                                                 other) for other in once.values() if other != own)]
        found.append(sorted(now, key=key))
    return found


def is_ladder(tables, row, value):
    ahead = [[None] * len(row)]
    for lots, most, rows in zip(tables, row, value):
        wanted = ahead if most is None else [lessened(ceiling, lot, most) for ceiling in ahead for lot in lots]
        if not all(any(below(own, ceiling) for ceiling in rows) for own in wanted):
            return False
        ahead = rows
    return True


def heads_back(tables, row, many):
    """The heads back through so many rounds; None if there are more than 200 of any kind that counts."""
    now = [list(row)]
    for _ in range(many):
        ladders = [ladder(tables, own) for own in now]
        if any(len(rows) > 200 for told in ladders for rows in told):
            return None
        now = highest([head for told in ladders for head in told[-1]])
        if len(now) > 200:
            return None
    return now


def boxed(lanes, least, most):
    return itertools.product(range(least, most + 1), repeat=lanes)

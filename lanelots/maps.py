"""Maps: a family for each lane, and families and maps that are fed with them."""

from lanelots.basics import LANES_AT_MOST, check_content, check_lane, check_lanes, check_many, check_order, is_list
from lanelots.errors import InvalidFamilies, InvalidFamily, InvalidOther, TooMany
from lanelots.families import Family
from lanelots.lots import MOST_LOTS, least_joins, least_of, numbers_in, raised_lots, renumbered_lots

MOST_ROUNDS = 60


class Map:
    """A family for each of one to twelve lanes, all of whose lots have these lanes alone."""

    def __init__(self, families):
        _check_families(families)
        self._families = list(families)

    @classmethod
    def same(cls, lanes):
        """The map of so many lanes that tells what it is given."""
        check_lanes(lanes, 1)
        return cls([Family([((lane, 0),)]) for lane in range(lanes)])

    @property
    def lanes(self):
        """How many lanes the map has."""
        return len(self._families)

    @property
    def is_plain(self):
        """Whether all numbers of the lots are 0."""
        return all([number == 0 for family in self._families for number in numbers_in(family.lots())])

    def families(self):
        """The list of the families."""
        return list(self._families)

    def __iter__(self):
        raise TypeError("a map is not iterated over: ask for its families()")

    def __getitem__(self, at):
        check_lane(at, len(self._families))
        return self._families[at]

    def __call__(self, content):
        """The content that the map tells."""
        check_content(content, len(self._families))
        return [family(content) for family in self._families]

    def __add__(self, other):
        """The other map behind this one: the other one fed with this one."""
        if not isinstance(other, Map) or len(other._families) != len(self._families):
            raise InvalidOther(other)
        return Map([_fed_with(family, self._families) for family in other._families])

    def __mul__(self, other):
        """The map so many times, one behind another."""
        check_many(other)
        if other > MOST_ROUNDS:
            raise TooMany("rounds", MOST_ROUNDS)
        found = Map.same(len(self._families))
        for _ in range(other):
            found = found + self
        return found

    def __neg__(self):
        """The map that tells of each content the negative of what this one tells of its negative."""
        return Map([~(-family) for family in self._families])

    def __eq__(self, other):
        return isinstance(other, Map) and self._families == other._families

    def __repr__(self):
        return f"Map({self._families})"

    def beside(self, other):
        """The map with the lanes of the other one behind its own."""
        if not isinstance(other, Map):
            raise InvalidOther(other)
        lanes = self.lanes + other.lanes
        if lanes > LANES_AT_MOST:
            raise TooMany("lanes", LANES_AT_MOST)
        behind = list(range(self.lanes, lanes))
        return Map(self._families + [_renumbered(family, behind) for family in other._families])

    def renumbered(self, order):
        """The map in which lane i is lane order[i], also in all lots."""
        check_order(order, self.lanes)
        found = self.families()
        for lane, family in zip(order, self._families):
            found[lane] = _renumbered(family, order)
        return Map(found)

    def with_family(self, lane, family):
        """The map with this family for the lane."""
        check_lane(lane, self.lanes)
        _check_family(family, self.lanes)
        return Map(self._families[:lane] + [family] + self._families[lane + 1:])


def fed(family, chart):
    """The family fed with the map: what it tells of the content that the map tells."""
    _check_family(family, chart.lanes)
    return _fed_with(family, chart.families())


def _fed_with(family, families):
    """The family with these families in the place of its lanes; TooMany if one on the way has too many lots."""
    tables = [told.lots() for told in families]
    found = []
    for lot in family.lots():
        found = least_of(found + _fed_lot(lot, tables), MOST_LOTS)
    return Family(found)


def _fed_lot(lot, tables):
    """The greatest of what the lanes of the lot are told as, lane by lane."""
    found = []
    for lane, number in lot:
        told = raised_lots(tables[lane], number)
        found = least_joins(found, told) if found else told
    return found


def _renumbered(family, order):
    return Family(renumbered_lots(family.lots(), order))


def _check_families(families):
    """InvalidFamilies unless a list of families that need no more lanes than it has; TooMany if it is too long."""
    if not is_list(families) or len(families) == 0:
        raise InvalidFamilies(None)
    for position, family in enumerate(families):
        if not _is_family_of(family, len(families)):
            raise InvalidFamilies(position)
    if len(families) > LANES_AT_MOST:
        raise TooMany("lanes", LANES_AT_MOST)


def _check_family(family, lanes):
    if not _is_family_of(family, lanes):
        raise InvalidFamily(family)


def _is_family_of(value, lanes):
    """Whether any value is a family whose lanes are all below so many."""
    return isinstance(value, Family) and value.hung()[-1] < lanes

"""Families, the least of the greatests of their lots, and co-families, the greatest of the leasts of theirs."""

from lanelots.basics import check_number
from lanelots.errors import InvalidFamily
from lanelots.lots import MOST_LOTS, check_lots, check_reaching, first_over, first_under, greatest_at, is_lot, lanes_in
from lanelots.lots import least_at, least_joins, least_of, over_of, plain_lots, raised_lots, turned_choices, turned_lots


class Family:
    """Of these lots those under which no other one is; its value is the least of theirs."""

    def __init__(self, lots):
        check_lots(lots)
        self._lots = least_of(plain_lots(lots), MOST_LOTS)

    def lots(self):
        """The sorted list of the lots."""
        return list(self._lots)

    def hung(self):
        """The sorted list of the lanes on which the family hangs."""
        return lanes_in(self._lots)

    def __call__(self, content):
        """The value at the content."""
        check_reaching(content, self._lots)
        return min([greatest_at(lot, content) for lot in self._lots])

    def __and__(self, other):
        """The family with the lesser one of both values."""
        _check_family(other)
        return Family(self._lots + other._lots)

    def __or__(self, other):
        """The family with the greater one of both values."""
        _check_family(other)
        return Family(least_joins(self._lots, other._lots))

    def __add__(self, other):
        """The family with so much more."""
        check_number(other)
        return Family(raised_lots(self._lots, other))

    def __neg__(self):
        """The co-family that tells, of changed signs, the value with its sign changed."""
        return CoFamily(turned_lots(self._lots))

    def __invert__(self):
        """The co-family with the same values."""
        return CoFamily(turned_lots(turned_choices(self._lots)))

    def __len__(self):
        return len(self._lots)

    def __contains__(self, x):
        return is_lot(x) and x in self._lots

    def __eq__(self, other):
        return isinstance(other, Family) and self._lots == other._lots

    def __repr__(self):
        return f"Family({self._lots})"


class CoFamily:
    """Of these co-lots those over which no other one is; its value is the greatest of theirs."""

    def __init__(self, lots):
        check_lots(lots)
        self._lots = over_of(plain_lots(lots), MOST_LOTS)

    def lots(self):
        """The sorted list of the co-lots."""
        return list(self._lots)

    def hung(self):
        """The sorted list of the lanes on which the co-family hangs."""
        return lanes_in(self._lots)

    def __call__(self, content):
        """The value at the content."""
        check_reaching(content, self._lots)
        return max([least_at(lot, content) for lot in self._lots])

    def __and__(self, other):
        """The co-family with the lesser one of both values."""
        _check_cofamily(other)
        return CoFamily(turned_lots(least_joins(turned_lots(self._lots), turned_lots(other._lots))))

    def __or__(self, other):
        """The co-family with the greater one of both values."""
        _check_cofamily(other)
        return CoFamily(self._lots + other._lots)

    def __add__(self, other):
        """The co-family with so much more."""
        check_number(other)
        return CoFamily(raised_lots(self._lots, other))

    def __neg__(self):
        """The family that tells, of changed signs, the value with its sign changed."""
        return Family(turned_lots(self._lots))

    def __invert__(self):
        """The family with the same values."""
        return Family(turned_choices(turned_lots(self._lots)))

    def __len__(self):
        return len(self._lots)

    def __contains__(self, x):
        return is_lot(x) and x in self._lots

    def __eq__(self, other):
        return isinstance(other, CoFamily) and self._lots == other._lots

    def __repr__(self):
        return f"CoFamily({self._lots})"


def lies_below(one, other):
    """Whether one is at most the other one at all contents, both families or both co-families."""
    if isinstance(one, Family):
        _check_family(other)
        lots = one.lots()
        return None not in [first_under(lots, lot) for lot in other.lots()]
    _check_family_of_some_kind(one)
    _check_cofamily(other)
    lots = other.lots()
    return None not in [first_over(lots, lot) for lot in one.lots()]


def _check_family(value):
    if not isinstance(value, Family):
        raise InvalidFamily(value)


def _check_cofamily(value):
    if not isinstance(value, CoFamily):
        raise InvalidFamily(value)


def _check_family_of_some_kind(value):
    if not isinstance(value, (Family, CoFamily)):
        raise InvalidFamily(value)

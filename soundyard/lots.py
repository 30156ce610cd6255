"""Holds, the sets of spots, and lots, the counts on spots. A spot is a tuple (kind, standing)."""

from soundyard.errors import BadCount, Lacking


def added_up(rows):
    """Return a dict that gives each spot one row (kind, standing, count), the counts of equal spots added up."""
    found = {}
    for kind, standing, count in rows:
        if count < 1:
            raise BadCount(count)
        spot = (kind, standing)
        earlier = found[spot][2] if spot in found else 0
        found[spot] = (kind, standing, earlier + count)
    return found


class Hold:
    """A set of spots, in the order of their first occurrence. It never changes."""

    def __init__(self, rows=()):
        # A dict of True, because a set would not keep the order.
        self._spots = {(kind, standing): True for kind, standing in rows}

    def __iter__(self):
        return iter(self._spots)

    def __len__(self):
        return len(self._spots)

    def __contains__(self, x):
        return x in self._spots

    def __le__(self, other):
        if not isinstance(other, Hold):
            return NotImplemented
        return all([spot in other for spot in self])

    def __eq__(self, other):
        return isinstance(other, Hold) and self._spots == other._spots

    def __or__(self, other):
        if not isinstance(other, Hold):
            return NotImplemented
        return Hold([*self, *other])

    def __and__(self, other):
        if not isinstance(other, Hold):
            return NotImplemented
        return Hold([spot for spot in self if spot in other])

    def __sub__(self, other):
        if not isinstance(other, Hold):
            return NotImplemented
        return Hold([spot for spot in self if spot not in other])


class Lot:
    """Counts of at least 1 on some spots, in the order of the first occurrence of the spots."""

    def __init__(self, rows=()):
        # This dict is only ever replaced, never changed, so a loop over a lot may change the lot.
        self._rows = added_up(rows)

    @classmethod
    def one(cls, kind, standing):
        """Return a lot with one copy."""
        return cls([(kind, standing, 1)])

    def __iter__(self):
        return iter(self._rows.values())

    def __len__(self):
        return len(self._rows)

    def __contains__(self, x):
        return x in self._rows

    def __getitem__(self, at):
        return self._rows[at][2] if at in self._rows else 0

    @property
    def total(self):
        """The sum of all counts."""
        return sum([row[2] for row in self._rows.values()])

    def spots(self):
        """Return the hold of the lot, in the order of its rows."""
        return Hold(list(self._rows))

    def __le__(self, other):
        if not isinstance(other, Lot):
            return NotImplemented
        return all([count <= other[kind, standing] for kind, standing, count in self])

    def __eq__(self, other):
        return isinstance(other, Lot) and self._rows == other._rows

    def __add__(self, other):
        if not isinstance(other, Lot):
            return NotImplemented
        return Lot([*self, *other])

    def __sub__(self, other):
        if not isinstance(other, Lot):
            return NotImplemented
        for kind, standing, count in other:
            if count > self[kind, standing]:
                raise Lacking(kind, standing)
        less = [(kind, standing, count - other[kind, standing]) for kind, standing, count in self]
        return Lot([row for row in less if row[2] > 0])

    def __mul__(self, other):
        if not isinstance(other, int):
            return NotImplemented
        if other < 0:
            raise BadCount(other)
        # A product with 0 has no rows, because no row of a lot counts less than 1.
        return Lot([(kind, standing, count * other) for kind, standing, count in self if other > 0])

    def __rmul__(self, other):
        return self * other

    def __iadd__(self, other):
        changed = self + other
        self._rows = changed._rows
        return self

    def __isub__(self, other):
        # The difference is made before anything is kept, so a refused one changes nothing.
        changed = self - other
        self._rows = changed._rows
        return self

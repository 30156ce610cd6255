"""Plans: deeds together with the lot that a yard needs for them."""

from soundyard.errors import YardError
from soundyard.lots import Lot


class Plan:
    """A list of deeds, and its start, the lot that a yard has at least before them."""

    def __init__(self, start, deeds):
        # The rows are kept, because the lot itself can be changed later.
        self._copies = tuple(start)
        self._deeds = tuple(deeds)
        self.moves = len([deed for deed in deeds if deed[0] == "move"])

    @property
    def start(self):
        """The lot, a new one each time."""
        return Lot(self._copies)

    def __iter__(self):
        return iter(self._deeds)

    def __len__(self):
        return len(self._deeds)

    def __call__(self, yard):
        """Play the deeds on the yard: all of them or none."""
        yard.play(*self._deeds)

    def __add__(self, other):
        if not isinstance(other, Plan):
            return NotImplemented
        return Plan(self.start, [*self, *other])


def end_of(plan, yard):
    """Return a copy of the yard on which the plan has been played, or None if a deed raises an error."""
    end = yard.copy()
    try:
        plan(end)
    except YardError:
        return None
    return end


def same_end(first, second, yard):
    """Tell whether both plans can be played on copies of the yard and both copies then are the same."""
    one = end_of(first, yard)
    other = end_of(second, yard)
    if one is None or other is None:
        return False
    return one.placed() == other.placed() and one.lot == other.lot

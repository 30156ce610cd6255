"""Yards, on which single deeds are played, and trials, which put a yard back if a block fails."""

from soundyard.errors import NoStep, Unknown
from soundyard.lots import Lot


def check_standings(standings, names):
    """Raise `Unknown` for the first of the names that is not a standing."""
    for name in names:
        if name not in standings:
            raise Unknown(name)


class Yard:
    """The places and the lot of a site. Their pair is sound at all times."""

    WORDS = ("put", "step", "take", "leave", "move")

    def __init__(self, site, places, lot):
        self._site = site
        self._become(places, lot)

    def __getitem__(self, at):
        singles = self._site.singles()
        if at not in singles:
            raise Unknown(at)
        return self._places[singles.index(at)]

    def __setitem__(self, at, worth):
        check_standings(self._site.single_standings(at), [worth])
        before = self[at]
        self._check_step(at, before, worth)
        singles = self._site.singles()
        places = [worth if name == at else standing for name, standing in zip(singles, self._places)]
        self._become(places, self.lot)

    def __contains__(self, x):
        return x in self._site.opened(self._places, self.lot.spots())

    def __iter__(self):
        return iter(self._copies)

    @property
    def lot(self):
        """A new lot, in the order of the site; assigning to it is the deed `leave`."""
        return Lot(self._copies)

    @lot.setter
    def lot(self, value):
        self.leave(value)

    def placed(self):
        """Return the places."""
        return self._places

    def put(self, kind, count=1):
        """Add copies at the first standing of a many kind."""
        first = self._site.many_standings(kind)[0]
        self._become(self._places, self.lot + Lot([(kind, first, count)]))

    def step(self, kind, before, after, count=1):
        """Move copies of a many kind along one step."""
        check_standings(self._site.many_standings(kind), [before, after])
        self._check_step(kind, before, after)
        rest = self.lot - Lot([(kind, before, count)])
        self._become(self._places, rest + Lot([(kind, after, count)]))

    def take(self, lot):
        """Take the copies of the lot away, all at once."""
        self._site.check_names(self._places, lot.spots())
        self._become(self._places, self.lot - lot)

    def leave(self, lot):
        """Take all copies away that are not in the lot, all at once."""
        self._site.check_names(self._places, lot.spots())
        self.take(self.lot - lot)

    def play(self, *deeds):
        """Play deeds, given as tuples, one after the other: all of them or none."""
        with Trial(self):
            for deed in deeds:
                self._play_one(deed)

    def trial(self):
        """Return a trial of the yard, for a `with` statement."""
        return Trial(self)

    def copy(self):
        """Return a new yard of the same site with the same places and lot."""
        return Yard(self._site, self._places, self.lot)

    def table(self):
        """Return a list of strings, one for each present standing, with its count."""
        lot = self.lot
        rows = []
        for kind, standing in self._site.present(self._places, lot.spots()):
            count = lot[kind, standing]
            # A present standing without copies is the standing of a single kind.
            many = f"{count:,}" if count > 0 else "one"
            rows.append(f"{kind:<12} {standing:<12} {many:>16}")
        return rows

    def _become(self, places, lot):
        """Take over these places and this lot, unless their pair is not sound."""
        hold = lot.spots()
        self._site.check(places, hold)
        self._places = tuple(places)
        self._copies = tuple([(kind, standing, lot[kind, standing]) for kind, standing in self._site.spots() & hold])

    def _check_step(self, kind, before, after):
        """Raise `NoStep` if no step of the kind leads from one standing to the other."""
        if not self._site.leads(kind, before, after):
            raise NoStep(before, after)

    def _play_one(self, deed):
        """Play one deed, given as a tuple."""
        word, *given = deed
        if word == "put":
            kind, count = given
            self.put(kind, count)
        elif word == "step":
            kind, before, after, count = given
            self.step(kind, before, after, count)
        elif word == "take":
            self.take(Lot(given[0]))
        elif word == "leave":
            self.leave(Lot(given[0]))
        elif word == "move":
            name, standing = given
            self[name] = standing
        else:
            raise Unknown(word)


class Mark:
    """What a yard had when a block began; `outer` is the mark of the block around it, or None."""

    def __init__(self, places, copies, outer):
        self.places = places
        self.copies = copies
        self.outer = outer


class Trial:
    """An object for a `with` statement: if the block ends with an exception, the yard is put back."""

    def __init__(self, yard):
        self._yard = yard
        self._mark = None

    def __enter__(self):
        yard = self._yard
        # The marks form a chain, because a block may use the trial of a block around it again.
        self._mark = Mark(yard._places, yard._copies, self._mark)
        return yard

    def __exit__(self, kind, value, trace):
        yard = self._yard
        if kind is not None:
            yard._places = self._mark.places
            yard._copies = self._mark.copies
        self._mark = self._mark.outer

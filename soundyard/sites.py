"""Sites: lists of kinds with different names."""

from soundyard.errors import Repeated, Shut, Unknown, Unmet
from soundyard.kinds import Many, Single, distinct
from soundyard.lots import Hold


def standings_of(kinds):
    """Return a dict that gives the name of each kind the tuple of its standings."""
    return {kind.name: kind.standings() for kind in kinds}


class Site:
    """A list of kinds. It never changes."""

    def __init__(self, kinds):
        self._kinds = {}
        for kind in kinds:
            if kind.name in self._kinds:
                raise Repeated(kind.name)
            self._kinds[kind.name] = kind.twin()
        # A site never changes, so what is asked of it most often is found out once.
        self._singles = standings_of([kind for kind in self._kinds.values() if isinstance(kind, Single)])
        self._manys = standings_of([kind for kind in self._kinds.values() if isinstance(kind, Many)])
        self._order = tuple([(name, standing) for name, kind in self._kinds.items() for standing in kind.standings()])

    def singles(self):
        """Return the tuple of the names of the single kinds, in order."""
        return tuple(self._singles)

    def spots(self):
        """Return the hold of all spots."""
        return Hold([(kind, standing) for kind, standings in self._manys.items() for standing in standings])

    def first_places(self):
        """Return the places in which every single kind is at its first standing."""
        return tuple([standings[0] for standings in self._singles.values()])

    def present(self, places, hold):
        """Return the tuple of the present standings, each a tuple (kind, standing)."""
        self.check_names(places, hold)
        here = {standing: True for standing in list(zip(self.singles(), places)) + list(hold)}
        return tuple([standing for standing in self.all_standings() if standing in here])

    def opened(self, places, hold):
        """Return the tuple of the open doors, in the order in which the present standings give them."""
        return distinct([door for kind, standing in self.present(places, hold)
                         for door in self.gives_at(kind, standing)])

    def giver(self, door, places, hold):
        """Return the first present standing that gives the door."""
        for kind, standing in self.present(places, hold):
            if door in self.gives_at(kind, standing):
                return (kind, standing)
        raise Shut(door)

    def unmet(self, places, hold):
        """Return the first unmet need as a tuple (kind, standing, door), or None if the pair is sound."""
        opened = self.opened(places, hold)
        for kind, standing in self.present(places, hold):
            for door in self.needs_at(kind, standing):
                if door not in opened:
                    return (kind, standing, door)
        return None

    def check(self, places, hold):
        """Raise `Unmet` with the first unmet need if the pair is not sound."""
        need = self.unmet(places, hold)
        if need is not None:
            kind, standing, door = need
            raise Unmet(kind, standing, door) from Shut(door)

    def offered(self, *offers):
        """Return a new site in which the offers, tuples (kind, standing, door), are taken in this order."""
        kinds = {name: kind.twin() for name, kind in self._kinds.items()}
        for name, standing, door in offers:
            if name not in kinds:
                raise Unknown(name)
            kind = kinds[name]
            needs, gives = kind[standing]
            # A kind keeps only the first occurrence of a door, so one that is given already is not added.
            kind[standing] = (needs, [*gives, door])
        return Site(list(kinds.values()))

    def check_names(self, places, hold):
        """Raise `Unknown` for the first name in the places, then in the hold, that does not fit the site."""
        for name, standing in zip(self.singles(), places):
            if standing not in self.single_standings(name):
                raise Unknown(standing)
        for name, standing in hold:
            if standing not in self.many_standings(name):
                raise Unknown(standing)

    def all_standings(self):
        """Return the tuple of all tuples (kind, standing), for single and many kinds, in order."""
        return self._order

    def single_standings(self, name):
        """Return the tuple of the standings of a single kind."""
        if name not in self._singles:
            raise Unknown(name)
        return self._singles[name]

    def many_standings(self, name):
        """Return the tuple of the standings of a many kind."""
        if name not in self._manys:
            raise Unknown(name)
        return self._manys[name]

    def needs_at(self, kind, standing):
        """Return the tuple of the doors that the kind needs at the standing."""
        return self._kinds[kind].needs(standing)

    def gives_at(self, kind, standing):
        """Return the tuple of the doors that the kind gives at the standing."""
        return self._kinds[kind].gives(standing)

    def leads(self, kind, before, after):
        """Tell whether a step of the kind leads from one of its standings to the other."""
        return after in self._kinds[kind].steps_from(before)

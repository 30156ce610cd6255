"""Kinds of parts: their standings, their steps and the doors that they need and give."""

from soundyard.errors import NoStep, Repeated, Unknown


def distinct(names):
    """Return the tuple of the names, each at its first occurrence only."""
    return tuple({name: True for name in names})


class Steps:
    """Standings, and the steps that lead from one of them to another."""

    def __init__(self, standings):
        self._steps = {}
        for standing in standings:
            if standing in self._steps:
                raise Repeated(standing)
            self._steps[standing] = {}

    def standings(self):
        """Return the tuple of the standings, in order."""
        return tuple(self._steps)

    def allow(self, before, after):
        """Add a step from one standing to another."""
        for standing in (before, after):
            if standing not in self._steps:
                raise Unknown(standing)
        if before == after:
            raise NoStep(before, after)
        self._steps[before][after] = True

    def steps_from(self, standing):
        """Return the tuple of the standings to which a step leads, in the order of the standings."""
        if standing not in self._steps:
            raise Unknown(standing)
        # The order of the standings is promised, not the order in which the steps were allowed.
        return tuple([after for after in self._steps if after in self._steps[standing]])


class Doors:
    """The doors that standings need and give."""

    def __init__(self, standings):
        self._doors = {standing: ((), ()) for standing in standings}

    def __iter__(self):
        return iter(self._doors)

    def __getitem__(self, at):
        if at not in self._doors:
            raise Unknown(at)
        return self._doors[at]

    def __setitem__(self, at, worth):
        if at not in self._doors:
            raise Unknown(at)
        needs, gives = worth
        self._doors[at] = (distinct(needs), distinct(gives))

    def needs(self, standing):
        """Return the tuple of the doors that the standing needs."""
        return self[standing][0]

    def gives(self, standing):
        """Return the tuple of the doors that the standing gives."""
        return self[standing][1]


class Part(Steps, Doors):
    """A kind: a name, standings, steps and doors."""

    def __init__(self, name, standings):
        Steps.__init__(self, standings)
        Doors.__init__(self, standings)
        self.name = name

    def row(self):
        """Return the name and the standings as one line of text."""
        names = ", ".join(self.standings())
        return f"{self.name}: {names}"

    def _follow(self, other):
        """Take over the steps and doors of a part that has the same standings."""
        for standing in other.standings():
            self[standing] = other[standing]
            for after in other.steps_from(standing):
                self.allow(standing, after)


class Single(Part):
    """A single kind: of it there is always exactly one part."""

    def __init__(self, name, standings):
        Part.__init__(self, name, standings)

    def row(self):
        """Return the row of the part, and that there is one."""
        return super().row() + " (one)"

    def twin(self):
        """Return a new kind with the same name, standings, steps and doors."""
        made = Single(self.name, self.standings())
        made._follow(self)
        return made


class Many(Part):
    """A many kind: of it there may be any number of copies, also none."""

    def __init__(self, name, standings):
        Part.__init__(self, name, standings)

    def row(self):
        """Return the row of the part, and that there is any number."""
        return super().row() + " (any number)"

    def twin(self):
        """Return a new kind with the same name, standings, steps and doors."""
        made = Many(self.name, self.standings())
        made._follow(self)
        return made

"""Webs: what can be brought about from a start, with how few moves, and by which deeds."""

from soundyard.deeds import plan_to
from soundyard.errors import BadCount, Never
from soundyard.greatest import crossed, grown
from soundyard.lots import Hold


class Reached:
    """A pair of a web with its moves; `origin` is the pair from which a crossing led to it, or None."""

    def __init__(self, moves, places, hold, origin):
        self.moves = moves
        self.places = places
        self.hold = hold
        self.origin = origin

    def covers(self, places, hold):
        """Tell whether this pair covers the pair of these places and this hold."""
        return self.places == places and hold <= self.hold


def covering(found, places, hold):
    """Return the first of the found pairs that covers the pair of these places and this hold, or None."""
    for pair in found:
        if pair.covers(places, hold):
            return pair
    return None


def greatest_of(found):
    """Return the list of the greatest of the found pairs, each of them once."""
    chosen = []
    for pair in found:
        if covering(chosen, pair.places, pair.hold) is None:
            chosen = [other for other in chosen if not pair.covers(other.places, other.hold)]
            chosen.append(pair)
    return chosen


def next_places(site, places):
    """Return the list of the places to which one step of one single part leads."""
    found = []
    for at, name in enumerate(site.singles()):
        for after in site.single_standings(name):
            if site.leads(name, places[at], after):
                found.append(places[:at] + (after,) + places[at + 1:])
    return found


def crossings(site, origin):
    """Return the list of the pairs to which crossings with one step lead."""
    found = []
    for places in next_places(site, origin.places):
        hold = crossed(site, origin.places, places, origin.hold)
        if hold is not None:
            found.append(Reached(origin.moves + 1, places, hold, origin))
    return found


def search(site, first):
    """Return the pairs of the web that no pair with fewer moves and no greater one with as many moves covers.

    They are in ascending order of their moves.
    """
    found = [first]
    latest = [first]
    while latest:
        # Whatever a covered pair leads to, the pair that covers it leads to a pair that covers that.
        further = [pair for origin in latest for pair in crossings(site, origin)]
        latest = greatest_of([pair for pair in further if covering(found, pair.places, pair.hold) is None])
        found.extend(latest)
    return found


def start_of(site, places, hold):
    """Return the places and the hold of a start that is given as for `Web`; raise what `check` raises."""
    where = site.first_places() if places is None else places
    # An empty hold counts as false, so it is compared with None.
    spots = Hold() if hold is None else hold
    site.check(where, spots)
    return (where, site.spots() & spots)


class Web:
    """The pairs to which crossings with one step lead from a sound pair, the start."""

    def __init__(self, site, *, places=None, hold=None):
        where, start = start_of(site, places, hold)
        self._site = site
        self._hold = start
        self._found = search(site, Reached(0, where, grown(site, where, start), None))
        self.depth = self._found[-1].moves

    def pairs(self):
        """Return the list of the greatest pairs."""
        return self.within(self.depth)

    def within(self, count):
        """Return the list of the greatest pairs among those with at most so many moves."""
        if count < 0:
            raise BadCount(count)
        found = greatest_of([pair for pair in self._found if pair.moves <= count])
        return [(pair.places, pair.hold) for pair in found]

    def walk(self):
        """Yield tuples (count, places, hold): the pairs that no pair with fewer moves covers."""
        for pair in self._found:
            yield (pair.moves, pair.places, pair.hold)

    def reaches(self, places, hold):
        """Tell whether the pair can be brought about."""
        return self._reached(places, hold) is not None

    def fewest(self, places, hold):
        """Return the fewest moves of the pair, or None if it cannot be brought about."""
        pair = self._reached(places, hold)
        return None if pair is None else pair.moves

    def never(self):
        """Return the list of all tuples (kind, standing) that are present in no pair of the web."""
        seen = {standing: True for pair in self._found for standing in self._site.present(pair.places, pair.hold)}
        return [standing for standing in self._site.all_standings() if standing not in seen]

    def plan(self, places, lot):
        """Return a plan with the fewest moves that ends with these places and this lot."""
        self._site.check(places, lot.spots())
        pair = self._reached(places, lot.spots())
        if pair is None:
            raise Never(self.pairs())
        return plan_to(self._site, self._hold, pair, lot)

    def _reached(self, places, hold):
        """Return the found pair with the fewest moves that covers this one, or None if this one is out of reach."""
        if self._site.unmet(places, hold) is not None:
            return None
        return covering(self._found, places, hold)

"""The greatest holds: what a hold grows to, what of it is kept, and where a crossing leads.

All holds are returned in the order of the site.
"""

from soundyard.lots import Hold


def met(site, spot, doors):
    """Tell whether all needs of the spot are among the doors."""
    kind, standing = spot
    return all([door in doors for door in site.needs_at(kind, standing)])


def sources(site, hold, spot):
    """Return the list of the standings in the hold from which a step leads to the spot."""
    kind, standing = spot
    return [before for before in site.many_standings(kind)
            if (kind, before) in hold and site.leads(kind, before, standing)]


def in_reach(site, hold, spot):
    """Tell whether a new copy begins at the spot, or a step leads to it from a spot in the hold."""
    kind, standing = spot
    return standing == site.many_standings(kind)[0] or len(sources(site, hold, spot)) > 0


def addable(site, places, hold):
    """Return the list of the spots that can be added to the hold."""
    opened = site.opened(places, hold)
    found = []
    for kind, standing in site.spots() - hold:
        spot = (kind, standing)
        # A spot may meet its own needs.
        doors = [*opened, *site.gives_at(kind, standing)]
        if in_reach(site, hold, spot) and met(site, spot, doors):
            found.append(spot)
    return found


def grown(site, places, hold):
    """Return the grown hold of a sound pair."""
    site.check(places, hold)
    more = addable(site, places, hold)
    while more:
        # What can be added to a hold can still be added when the hold has grown, so all go in at once.
        hold = hold | Hold(more)
        more = addable(site, places, hold)
    return site.spots() & hold


def kept(site, places, after, hold):
    """Return the kept hold for the first places `places` and the second places `after`."""
    site.check_names(places, hold)
    site.check_names(after, hold)
    while True:
        first = site.opened(places, hold)
        second = site.opened(after, hold)
        rest = [spot for spot in hold if met(site, spot, first) and met(site, spot, second)]
        # A need that is not met in a hold is not met in a part of it, so no kept spot is ever left out.
        if len(rest) == len(hold):
            return site.spots() & hold
        hold = Hold(rest)


def crossed(site, places, after, hold):
    """Return the hold of the pair to which the crossing leads, or None if it is not possible."""
    remaining = kept(site, places, after, hold)
    if site.unmet(places, remaining) is not None or site.unmet(after, remaining) is not None:
        return None
    return grown(site, after, remaining)

"""The deeds of a plan, found from the end of the plan back to its start."""

from soundyard.greatest import addable, kept, sources
from soundyard.lots import Hold, Lot
from soundyard.plans import Plan


def with_one_each(lot, hold):
    """Return the lot with one copy more on each spot of the hold that has none."""
    return lot + Lot([(kind, standing, 1) for kind, standing in hold - lot.spots()])


def growing(site, places, hold, wanted):
    """Return the deeds by which a hold grows until no spot can be added, and the lot that they need.

    They end with at least the wanted lot, and with at least one copy on each spot of the grown hold.
    """
    spots = addable(site, places, hold)
    if not spots:
        return [], with_one_each(wanted, hold)
    later, needed = growing(site, places, hold | Hold(spots), wanted)
    deeds = []
    rest = Lot([(kind, standing, count) for kind, standing, count in needed if (kind, standing) in hold])
    for kind, standing in spots:
        count = needed[kind, standing]
        if standing == site.many_standings(kind)[0]:
            deeds.append(("put", kind, count))
        else:
            before = sources(site, hold, (kind, standing))[0]
            deeds.append(("step", kind, before, standing, count))
            # These copies come on top of those that stay, so the standing before the step keeps a copy.
            rest = rest + Lot([(kind, before, count)])
    return deeds + later, rest


def crossing(site, places, after, needed):
    """Return the deeds of a crossing that keeps the needed lot."""
    moves = [("move", name, standing) for name, before, standing in zip(site.singles(), places, after)
             if before != standing]
    return [("leave", tuple(needed)), *moves]


def plan_to(site, hold, reached, lot):
    """Return the plan that leads from a start with this hold to a pair of its web, and there to the lot."""
    deeds = [("leave", tuple(lot))]
    needed = lot
    while reached.origin is not None:
        origin = reached.origin
        remaining = kept(site, origin.places, reached.places, origin.hold)
        later, needed = growing(site, reached.places, remaining, needed)
        deeds = [*crossing(site, origin.places, reached.places, needed), *later, *deeds]
        reached = origin
    first, needed = growing(site, reached.places, hold, needed)
    return Plan(needed, first + deeds)

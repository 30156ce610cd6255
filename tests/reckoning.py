"""A plain second reckoning: small random sites as lists of dicts, and what points 5 to 13 say of them."""

from soundyard.kinds import Many, Single
from soundyard.sites import Site
from tests.helpers import made

DOORS = "uvwxyz"


def some(random, names, most):
    """Return a random list of different names, at most so many."""
    return random.sample(names, random.randint(0, min(most, len(names))))


def random_rows(random):
    """Return a random site as a list of dicts, with at most six spots."""
    rows, spots = [], 0
    for number in range(random.randint(0, 5)):
        standings = random.sample("abcd", random.randint(1, 3))
        one = random.random() < 0.4 or spots + len(standings) > 6
        spots += 0 if one else len(standings)
        rows.append({
            "name": f"k{number}", "one": one, "standings": standings,
            "steps": [(a, b) for a in standings for b in standings if a != b and random.random() < 0.6],
            "needs": {name: some(random, DOORS, 1 if one else 2) for name in standings},
            "gives": {name: some(random, DOORS, 3) for name in standings},
        })
    return rows


def site_of(rows):
    """Return the site that the rows describe."""
    return Site([made(Single if row["one"] else Many, row["name"], row["standings"], row["steps"],
                      [(name, row["needs"][name], row["gives"][name]) for name in row["standings"]]) for row in rows])


def spots_of(rows):
    return [(row["name"], name) for row in rows if not row["one"] for name in row["standings"]]


def random_places(random, rows):
    return tuple([random.choice(row["standings"]) for row in rows if row["one"]])


def present(rows, places, hold):
    """Return the present standings, each as a tuple (row, standing)."""
    left, found = list(places), []
    for row in rows:
        if row["one"]:
            found.append((row, left.pop(0)))
        else:
            found += [(row, name) for name in row["standings"] if (row["name"], name) in hold]
    return found


def opened(rows, places, hold):
    return {door for row, name in present(rows, places, hold) for door in row["gives"][name]}


def first_unmet(rows, places, hold):
    doors = opened(rows, places, hold)
    for row, name in present(rows, places, hold):
        for door in row["needs"][name]:
            if door not in doors:
                return (row["name"], name, door)
    return None


def row_of(rows, name):
    return [row for row in rows if row["name"] == name][0]


def spot_is_met(rows, places, hold, spot):
    row = row_of(rows, spot[0])
    return set(row["needs"][spot[1]]) <= opened(rows, places, hold)


def can_be_added(rows, places, hold, spot):
    """Tell whether point 11 lets the spot be added to the hold."""
    kind, name = spot
    row = row_of(rows, kind)
    led = [before for before, after in row["steps"] if after == name and (kind, before) in hold]
    first = row["standings"][0] == name
    return spot not in hold and (first or led != []) and spot_is_met(rows, places, hold | {spot}, spot)


def grown_in_turn(random, rows, places, hold):
    """Add one spot after the other, each time a random one of those that can be added."""
    hold = set(hold)
    while True:
        free = [spot for spot in spots_of(rows) if can_be_added(rows, places, hold, spot)]
        if not free:
            return in_order(rows, hold)
        hold.add(random.choice(free))


def in_order(rows, hold):
    return [spot for spot in spots_of(rows) if spot in hold]


def subsets(spots):
    """Return all subsets of the spots."""
    found = [set()]
    for spot in spots:
        found += [part | {spot} for part in found]
    return found


def has_the_property(rows, places, after, part):
    """Tell whether each need of each spot is met twice, as point 12 says."""
    return all(spot_is_met(rows, where, part, spot) for where in (places, after) for spot in part)


def kept_of_all(rows, places, after, hold):
    """Return the subsets of the hold with the property of point 12."""
    return [part for part in subsets(sorted(hold)) if has_the_property(rows, places, after, part)]

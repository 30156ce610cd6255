"""A plain second reckoning: small random sites as lists of dicts, and what points 5 to 16 and 18 say of them."""

import itertools

from soundyard.kinds import Many, Single
from soundyard.sites import Site
from tests.helpers import made

DOORS = "uvwxyz"


def some(random, names, most):
    """Return a random list of different names, at most so many."""
    return random.sample(names, random.randint(0, min(most, len(names))))


def random_rows(random):
    """Return a random site as a list of dicts, with at most six spots."""
    rows, spots = [], 0
    for number in range(random.randint(0, 5)):
        standings = random.sample("abcd", random.randint(1, 3))
        one = random.random() < 0.4 or spots + len(standings) > 6
        spots += 0 if one else len(standings)
        rows.append({
            "name": f"k{number}", "one": one, "standings": standings,
            "steps": [(a, b) for a in standings for b in standings if a != b and random.random() < 0.6],
            "needs": {name: some(random, DOORS, 1 if one else 2) for name in standings},
            "gives": {name: some(random, DOORS, 3) for name in standings},
        })
    return rows


def web_rows(random):
    """Return a random site in which it matters for the copies where the single parts have been before.

    New copies come in at few places only, but those that are in can stay at more places.
    """
    places = random.sample("abcde", random.randint(3, 5))
    given = {place: some(random, DOORS, 1) for place in places}
    steps = [(a, b) for a in places for b in places if a != b and random.random() < 0.5]
    base = {"name": "base", "one": True, "standings": places, "steps": steps, "gives": given,
            "needs": {place: some(random, DOORS, 1) if random.random() < 0.1 else [] for place in places}}
    lamp = {"name": "lamp", "one": True, "standings": ["a", "b"], "steps": [("a", "b")] * random.randint(0, 1),
            "needs": {"a": [], "b": []}, "gives": {name: some(random, DOORS, 2) for name in "ab"}}
    rows = [base, lamp][:random.randint(1, 2)]
    for number in range(3):
        coming, staying = DOORS[2 * number:2 * number + 2]
        first = random.choice(places)
        given[first].append(coming)
        for place in places:
            given[place] += [staying] * (place == first or random.random() < 0.5)
        rows.append({"name": f"m{number}", "one": False, "standings": ["in", "on"], "steps": [("in", "on")],
                     "needs": {"in": [coming], "on": [staying]},
                     "gives": {name: some(random, DOORS, 1) if random.random() < 0.2 else [] for name in ("in", "on")}})
    random.shuffle(rows)
    return rows


def site_of(rows):
    """Return the site that the rows describe."""
    return Site([made(Single if row["one"] else Many, row["name"], row["standings"], row["steps"],
                      [(name, row["needs"][name], row["gives"][name]) for name in row["standings"]]) for row in rows])


def spots_of(rows):
    return [(row["name"], name) for row in rows if not row["one"] for name in row["standings"]]


def random_places(random, rows):
    return tuple([random.choice(row["standings"]) for row in rows if row["one"]])


def present(rows, places, hold):
    """Return the present standings, each as a tuple (row, standing)."""
    left, found = list(places), []
    for row in rows:
        if row["one"]:
            found.append((row, left.pop(0)))
        else:
            found += [(row, name) for name in row["standings"] if (row["name"], name) in hold]
    return found


def opened(rows, places, hold):
    return {door for row, name in present(rows, places, hold) for door in row["gives"][name]}


def first_unmet(rows, places, hold):
    doors = opened(rows, places, hold)
    for row, name in present(rows, places, hold):
        for door in row["needs"][name]:
            if door not in doors:
                return (row["name"], name, door)
    return None


def row_of(rows, name):
    return [row for row in rows if row["name"] == name][0]


def spot_is_met(rows, places, hold, spot):
    row = row_of(rows, spot[0])
    return set(row["needs"][spot[1]]) <= opened(rows, places, hold)


def can_be_added(rows, places, hold, spot):
    """Tell whether point 11 lets the spot be added to the hold."""
    kind, name = spot
    row = row_of(rows, kind)
    led = [before for before, after in row["steps"] if after == name and (kind, before) in hold]
    first = row["standings"][0] == name
    return spot not in hold and (first or led != []) and spot_is_met(rows, places, hold | {spot}, spot)


def grown_in_turn(random, rows, places, hold):
    """Add one spot after the other, each time a random one of those that can be added."""
    hold = set(hold)
    while True:
        free = [spot for spot in spots_of(rows) if can_be_added(rows, places, hold, spot)]
        if not free:
            return in_order(rows, hold)
        hold.add(random.choice(free))


def in_order(rows, hold):
    return [spot for spot in spots_of(rows) if spot in hold]


def subsets(spots):
    """Return all subsets of the spots."""
    found = [set()]
    for spot in spots:
        found += [part | {spot} for part in found]
    return found


def has_the_property(rows, places, after, part):
    """Tell whether each need of each spot is met twice, as point 12 says."""
    return all(spot_is_met(rows, where, part, spot) for where in (places, after) for spot in part)


def kept_of_all(rows, places, after, hold):
    """Return the subsets of the hold with the property of point 12."""
    return [part for part in subsets(sorted(hold)) if has_the_property(rows, places, after, part)]


def kept_by_removing(rows, places, after, hold):
    """Take spots out of the hold, one after the other, until it has the property of point 12."""
    left = set(hold)
    while True:
        bad = [spot for spot in left
               if not all(spot_is_met(rows, where, left, spot) for where in (places, after))]
        if not bad:
            return frozenset(left)
        left.remove(bad[0])


def all_places(rows):
    return list(itertools.product(*[row["standings"] for row in rows if row["one"]]))


def next_places(rows, places):
    """Return all places that differ from these by one step of one single part."""
    singles, found = [row for row in rows if row["one"]], []
    for after in all_places(rows):
        moved = [(row, a, b) for row, a, b in zip(singles, places, after) if a != b]
        if len(moved) == 1 and moved[0][1:] in moved[0][0]["steps"]:
            found.append(after)
    return found


def crossing(random, rows, places, after, hold):
    """Return the hold to which the crossing of point 13 leads, or None."""
    part = kept_by_removing(rows, places, after, hold)
    if any(first_unmet(rows, where, part) is not None for where in (places, after)):
        return None
    return frozenset(grown_in_turn(random, rows, after, part))


def whole_web(random, rows, places, hold):
    """Return the moves of each pair of the web of point 14, without leaving any pair out."""
    latest = [(places, frozenset(grown_in_turn(random, rows, places, hold)))]
    moves = {latest[0]: 0}
    while latest:
        further = []
        for where, held in latest:
            for after in next_places(rows, where):
                led = crossing(random, rows, where, after, held)
                if led is not None and (after, led) not in moves:
                    moves[after, led] = moves[where, held] + 1
                    further.append((after, led))
        latest = further
    return moves


def covers(pair, other):
    return pair[0] == other[0] and pair[1] >= other[1]


def greatest(pairs):
    """Return the set of the pairs that no other one covers (point 15)."""
    return {pair for pair in pairs if not any(other != pair and covers(other, pair) for other in pairs)}


def next_holds(rows, places, hold):
    """Return the holds to which a deed without a move can lead from a hold, whether they are sound or not."""
    found = [frozenset(part) for part in subsets(sorted(hold))]
    for row in [row for row in rows if not row["one"]]:
        found.append(hold | {(row["name"], row["standings"][0])})
        for before, after in row["steps"]:
            if (row["name"], before) in hold:
                spot = (row["name"], after)
                # Either some copies stay behind, or none does.
                found += [hold | {spot}, hold - {(row["name"], before)} | {spot}]
    return found


def brought_about(rows, places, hold):
    """Return the fewest moves of each pair that some deeds lead to, whatever the counts (point 16).

    This follows single deeds, not the web: what matters of a yard with enough copies is its places and its hold.
    """
    sound = {}

    def is_sound(pair):
        if pair not in sound:
            sound[pair] = first_unmet(rows, *pair) is None
        return sound[pair]

    latest, moves, count = [(places, frozenset(hold))], {}, 0
    while latest:
        pending, latest = latest, []
        while pending:
            pair = pending.pop()
            if pair not in moves and is_sound(pair):
                moves[pair] = count
                pending += [(pair[0], held) for held in next_holds(rows, *pair)]
                latest += [(after, pair[1]) for after in next_places(rows, pair[0])]
        count += 1
    return moves

"""Choices of further doors that let a goal be brought about."""

from soundyard.webs import Web, start_of


def next_index(choice):
    """Return the least index that can follow in the choice."""
    return choice[-1] + 1 if len(choice) > 0 else 0


def all_choices(many):
    """Return the list of all choices among so many offers, in their order."""
    found = []
    latest = [()]
    while latest:
        found.extend(latest)
        latest = [(*choice, at) for choice in latest for at in range(next_index(choice), many)]
    return found


def fewest_doors(site, offers, *, places=None, hold=None, goal_places, goal_hold):
    """Return the first choice with which the goal can be brought about, or None, and the choices refused before.

    Each refused choice stands with the list of the greatest pairs of its web.
    """
    where, start = start_of(site, places, hold)
    site.check_names(goal_places, goal_hold)
    # All offers are checked before any choice is tried.
    site.offered(*offers)
    refused = []
    for choice in all_choices(len(offers)):
        taken = [offers[at] for at in choice]
        web = Web(site.offered(*taken), places=where, hold=start)
        if web.reaches(goal_places, goal_hold):
            return (choice, refused)
        refused.append((choice, web.pairs()))
    return (None, refused)

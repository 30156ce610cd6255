"""Sites up to the section Limits of the document, and numbers far beyond it."""

import random
import unittest

from soundyard.choices import fewest_doors
from soundyard.lots import Hold, Lot
from soundyard.plans import same_end
from soundyard.sites import Site
from soundyard.webs import Web
from soundyard.yards import Yard
from tests import reckoning
from tests.helpers import Case, many, single
from tests.test_random_webs import plain, with_offers

LETTERS = "abcdefghijkl"
# The numbers of standings of the single and of the many kinds.
SHAPES = [([5, 4, 2], [2, 2, 1, 1, 2]), ([2, 2, 2, 5], [2, 2, 2, 2]), ([5, 4, 2], [5, 3]), ([5, 2, 4], [4, 1, 1, 1, 1])]


def named(letter, number):
    """Return a name of the greatest length."""
    return letter * 10 + f"{number:02}"


def large_rows(pick):
    """Return a random site as large as the document lets it be."""
    doors, rows = [named(letter, 0) for letter in LETTERS], []
    singles, manys = pick.choice(SHAPES)
    for number, size in enumerate(singles + manys):
        one = number < len(singles)
        standings = [named("s", at) for at in range(size)]
        rows.append({
            "name": named("k", number), "one": one, "standings": standings,
            "steps": [(a, b) for a in standings for b in standings if a != b and pick.random() < 0.6],
            "needs": {name: [] if one else pick.sample(doors, pick.randint(0, 2)) for name in standings},
            "gives": {name: pick.sample(doors, pick.randint(0, 5 if one else 2)) for name in standings},
        })
    # A need of many doors, some of which are rarely open, and a standing that gives many.
    rows[-1]["needs"][rows[-1]["standings"][0]] = pick.sample(doors, 6)
    rows[0]["gives"][rows[0]["standings"][-1]] = pick.sample(doors, 6)
    pick.shuffle(rows)
    return rows


class LargeSitesTest(Case):
    def settings(self, most):
        for seed in range(most):
            pick = random.Random(seed)
            rows = large_rows(pick)
            places = reckoning.random_places(pick, rows)
            yield pick, rows, reckoning.site_of(rows), places

    def test_webs_and_plans(self):
        largest = 0
        for pick, rows, site, places in self.settings(12):
            web = Web(site, places=places)
            moves = reckoning.whole_web(pick, rows, places, [])
            largest = max(largest, len(moves))
            self.assertEqual(plain(web.pairs()), reckoning.greatest(moves))
            found = [(count, (where, frozenset(hold))) for count, where, hold in web.walk()]
            self.assertEqual([count for count, _ in found], sorted([moves[pair] for _, pair in found]))
            self.assertEqual(web.depth, found[-1][0])
            for where, hold in web.pairs():
                self.assertEqual(list(hold), reckoning.in_order(rows, list(hold)))
                self.follow(pick, site, places, web, where, hold)
        self.assertGreater(largest, 60)

    def follow(self, pick, site, places, web, where, hold):
        lot = Lot([(*spot, pick.randint(1, 10 ** 30)) for spot in hold])
        plan = web.plan(where, lot)
        yard = Yard(site, places, plan.start)
        self.assertIs(same_end(plan, plan, yard), True)
        plan(yard)
        self.assertEqual((yard.placed(), yard.lot), (where, lot))
        self.assertEqual(plan.moves, web.fewest(where, hold))

    def test_choices_among_five_offers(self):
        for pick, rows, site, places in self.settings(3):
            every = [(row["name"], name) for row in rows for name in row["standings"]]
            offers = [(*pick.choice(every), named(pick.choice(LETTERS), 0)) for _ in range(5)]
            goal, hold = tuple([row["standings"][-1] for row in rows if row["one"]]), site.spots()
            chosen, refused = fewest_doors(site, offers, places=places, goal_places=goal, goal_hold=hold)
            choice, closed = refused[-1]
            moves = reckoning.whole_web(pick, with_offers(rows, [offers[at] for at in choice]), places, [])
            self.assertEqual(plain(closed), reckoning.greatest(moves))
            if chosen is None:
                self.assertEqual(len(refused), 32)
            else:
                web = Web(site.offered(*[offers[at] for at in chosen]), places=places)
                self.assertIs(web.reaches(goal, hold), True)


class LongWayTest(Case):
    def test_a_way_of_many_moves(self):
        # The dial turns one way only. A key comes in at one place of the dial, and with it the gate opens one step
        # further; there the gate itself keeps the keys, and the next key comes in one place before that of the dial.
        dial, gate, keys = [f"d{at}" for at in range(5)], [f"g{at}" for at in range(5)], [f"k{at}" for at in range(4)]
        site = Site([
            single("dial", dial, [(dial[at], dial[(at + 1) % 5]) for at in range(5)],
                   [(dial[4 - at], [], [f"t{at}"]) for at in range(4)]),
            single("gate", gate, list(zip(gate, gate[1:])),
                   [(gate[at + 1], [f"ok{at}"], [f"t{key}" for key in range(at + 1)]) for at in range(4)]),
            many("key", keys, list(zip(keys, keys[1:])), [(keys[at], [f"t{at}"], [f"ok{at}"]) for at in range(4)]),
        ])
        web = Web(site)
        for at in range(4):
            places, hold = (f"d{4 - at}", f"g{at + 1}"), Hold([("key", f"k{at}")])
            self.assertEqual(web.fewest(places, hold), 5 * at + 5)
            plan = web.plan(places, Lot([("key", f"k{at}", 10 ** 30)]))
            yard = Yard(site, ("d0", "g0"), plan.start)
            plan(yard)
            self.assertEqual((yard.placed(), list(yard)), (places, [("key", f"k{at}", 10 ** 30)]))
            self.assertEqual(plan.moves, 5 * at + 5)
        self.assertEqual((web.fewest(("d0", "g4"), Hold([("key", "k3")])), web.depth), (24, 24))
        self.assertEqual(web.never(), [])
        self.assertEqual(sorted({count for count, _, _ in web.walk()}), list(range(25)))

    def test_lots_and_holds_of_sixty_rows(self):
        site = Site([single("base", ["a", "b"], [("a", "b")]), many("app", ["idle", "up"], [("idle", "up")])])
        rows = [("app", "idle", at + 1) for at in range(30)] + [("app", "up", 10 ** 30) for _ in range(30)]
        spots = [row[:2] for row in rows]
        web = Web(site, hold=Hold(spots))
        self.assertEqual(web.fewest(("b",), Hold(spots)), 1)
        plan = web.plan(("b",), Lot(rows))
        yard = Yard(site, ("a",), plan.start + Lot(rows))
        yard.put("app", 10 ** 40)
        yard.step("app", "idle", "up", 10 ** 39)
        plan(yard)
        self.assertEqual(list(yard), [("app", "idle", 465), ("app", "up", 30 * 10 ** 30)])


if __name__ == "__main__":
    unittest.main()

"""Webs, plans and choices of small random sites, held against the plain second reckoning."""

import itertools
import unittest

from soundyard.choices import fewest_doors
from soundyard.errors import Never
from soundyard.lots import Hold, Lot
from soundyard.webs import Web
from soundyard.yards import Yard
from tests import reckoning
from tests.helpers import Case
from tests.test_random import Setting


def plain(pairs):
    """Return pairs as the plain reckoning writes them; fail if one of them stands there twice."""
    found = {(places, frozenset(hold)) for places, hold in pairs}
    if len(found) != len(pairs):
        raise AssertionError("a pair stands there twice")
    return found


def starts(most):
    """Yield random settings, each with the places and the hold of a start."""
    for seed in range(most):
        one = Setting(seed, reckoning.web_rows if seed % 2 else reckoning.random_rows)
        places, spots = one.places(), one.hold()
        if reckoning.first_unmet(one.rows, places, spots) is not None:
            spots = []
        if reckoning.first_unmet(one.rows, places, spots) is None:
            yield seed, one, places, spots


class WebsTest(Case):
    def test_the_greatest_pairs_with_each_number_of_moves(self):
        deepest = several = 0
        for seed, one, places, spots in starts(900):
            web = Web(one.site, places=places, hold=Hold(spots))
            moves = reckoning.whole_web(one.random, one.rows, places, spots)
            everything = reckoning.greatest(moves)
            self.assertEqual(plain(web.pairs()), everything, seed)
            last = max(moves.values())
            within = [reckoning.greatest({pair for pair in moves if moves[pair] <= count}) for count in range(last + 2)]
            for count, expected in enumerate(within):
                self.assertEqual(plain(web.within(count)), expected, seed)
            self.assertEqual(web.depth, within.index(everything), seed)
            rows = [(0, pair) for pair in within[0]]
            for count in range(1, web.depth + 1):
                rows += [(count, pair) for pair in within[count]
                         if not any(reckoning.covers(other, pair) for other in within[count - 1])]
            walked = list(web.walk())
            self.assertEqual([count for count, *_ in walked], [count for count, _ in rows], seed)
            self.assertEqual({(count, (where, frozenset(hold))) for count, where, hold in walked}, set(rows), seed)
            self.assertEqual(len(walked), len(set(rows)), seed)
            deepest = max(deepest, web.depth)
            several += len({where for where, _ in everything}) < len(everything)
        self.assertGreater(deepest, 3)
        self.assertGreater(several, 5)

    def test_the_order_of_holds_and_what_is_never_present(self):
        for seed, one, places, spots in starts(500):
            web = Web(one.site, places=places, hold=Hold(spots))
            holds = [hold for _, hold in web.pairs() + web.within(1)] + [hold for _, _, hold in web.walk()]
            for hold in holds:
                self.assertEqual(list(hold), reckoning.in_order(one.rows, list(hold)), seed)
            moves = reckoning.whole_web(one.random, one.rows, places, spots)
            seen = {(row["name"], name) for where, hold in moves
                    for row, name in reckoning.present(one.rows, where, hold)}
            never = [(row["name"], name) for row in one.rows for name in row["standings"]
                     if (row["name"], name) not in seen]
            self.assertEqual(web.never(), never, seed)

    def test_what_deeds_can_bring_about(self):
        reached = missed = unsound = 0
        for seed, one, places, spots in starts(160):
            web = Web(one.site, places=places, hold=Hold(spots))
            moves = reckoning.brought_about(one.rows, places, spots)
            for where in reckoning.all_places(one.rows):
                for part in reckoning.subsets(one.spots):
                    hold = one.random.sample(sorted(part), len(part))
                    expected = moves.get((where, frozenset(part)))
                    self.assertEqual(web.fewest(where, Hold(hold)), expected, seed)
                    self.assertIs(web.reaches(where, Hold(hold)), expected is not None, seed)
                    reached += expected is not None
                    sound = reckoning.first_unmet(one.rows, where, part) is None
                    missed += sound and expected is None
                    unsound += not sound
        self.assertGreater(min(reached, missed, unsound), 500)


class PlansTest(Case):
    def counts(self, pick, spots):
        """Return a lot with random counts on the spots, in a random order."""
        rows = [(*spot, pick.choice([1, 1, 2, 3, 10 ** 30 - 1, 10 ** 30])) for spot in spots]
        return Lot(pick.sample(rows, len(rows)))

    def plans(self, most):
        """Yield webs, each with some wishes, some of which cannot be brought about."""
        for seed, one, places, spots in starts(most):
            web = Web(one.site, places=places, hold=Hold(spots))
            for _ in range(12):
                where, hold = one.random.choice(web.pairs())
                wished = [spot for spot in hold if one.random.random() < 0.6]
                if one.random.random() < 0.2:
                    where, wished = one.places(), one.hold()
                yield seed, one, (places, spots), web, where, self.counts(one.random, wished)

    def test_plans_end_as_wished_with_the_fewest_moves(self):
        done, most = 0, 0
        for seed, one, start, web, where, lot in self.plans(500):
            hold = lot.spots()
            need = reckoning.first_unmet(one.rows, where, list(hold))
            if need is not None:
                self.unmet(need, web.plan, where, lot)
                continue
            if not web.reaches(where, hold):
                error = self.refused_plan(web, where, lot)
                self.assertEqual(plain(error.closed), plain(web.pairs()), seed)
                continue
            rows = list(lot)
            plan = web.plan(where, lot)
            self.assertEqual(list(lot), rows, seed)
            self.assertEqual(plan.moves, web.fewest(where, hold), seed)
            self.assertEqual(len([deed for deed in plan if deed[0] == "move"]), plan.moves, seed)
            self.assertEqual(plan.start.spots(), Hold(start[1]), seed)
            for more in (0, 1, 10 ** 30):
                yard = Yard(one.site, start[0], plan.start + self.more(one.random, start[1], more))
                self.assertIsNone(plan(yard))
                self.assertEqual(yard.placed(), where, seed)
                self.assertEqual(yard.lot, lot, seed)
            done += 1
            most = max(most, plan.moves)
        self.assertGreater(done, 500)
        self.assertGreater(most, 2)

    def more(self, pick, spots, most):
        """Return a lot of further copies on some of the spots."""
        rows = [(*spot, pick.randint(0, most)) for spot in spots]
        return Lot([row for row in rows if row[2] > 0])

    def refused_plan(self, web, where, lot):
        with self.assertRaises(Never) as caught:
            web.plan(where, lot)
        return caught.exception


def with_offers(rows, offers):
    """Return the rows of the site in which these offers are taken."""
    rows = [{**row, "gives": {name: list(row["gives"][name]) for name in row["standings"]}} for row in rows]
    for kind, name, door in offers:
        reckoning.row_of(rows, kind)["gives"][name].append(door)
    return rows


class ChoicesTest(Case):
    def settings(self, most):
        """Yield settings, each with some offers and a goal that all of them together often allow."""
        for seed, one, places, spots in starts(most):
            every = [(row["name"], name) for row in one.rows for name in row["standings"]]
            offers = [(*one.random.choice(every), one.random.choice(reckoning.DOORS))
                      for _ in range(one.random.randint(0, 4) if every else 0)]
            moves = reckoning.whole_web(one.random, with_offers(one.rows, offers), places, spots)
            goal, hold = one.random.choice(sorted(moves, key=lambda pair: (pair[0], sorted(pair[1]))))
            wished = [spot for spot in sorted(hold) if one.random.random() < 0.7]
            yield seed, one, (places, spots), offers, (goal, wished)

    def test_the_first_choice_and_the_refused_ones(self):
        lengths = []
        for seed, one, (places, spots), offers, (goal, wished) in self.settings(500):
            chosen, refused = fewest_doors(one.site, offers, places=places, hold=Hold(spots),
                                           goal_places=goal, goal_hold=Hold(wished))
            expected, closed, wish = None, [], (goal, frozenset(wished))
            for choice in [choice for size in range(len(offers) + 1)
                           for choice in itertools.combinations(range(len(offers)), size)]:
                rows = with_offers(one.rows, [offers[at] for at in choice])
                moves = reckoning.whole_web(one.random, rows, places, spots)
                if reckoning.first_unmet(rows, *wish) is None and any(reckoning.covers(pair, wish) for pair in moves):
                    expected = choice
                    break
                closed.append((choice, reckoning.greatest(moves)))
            self.assertEqual(chosen, expected, seed)
            self.assertEqual([(choice, plain(pairs)) for choice, pairs in refused], closed, seed)
            lengths.append(-1 if chosen is None else len(chosen))
        for length in (-1, 0, 1, 2):
            self.assertGreater(lengths.count(length), 4, length)


if __name__ == "__main__":
    unittest.main()

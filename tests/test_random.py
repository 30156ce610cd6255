"""Small random sites and yards, held against a plain second reckoning."""

import random
import unittest

from soundyard.errors import BadCount, Lacking, NoStep, Unknown, Unmet
from soundyard.greatest import crossed, grown, kept
from soundyard.lots import Hold, Lot
from soundyard.yards import Yard
from tests import reckoning
from tests.helpers import Case


class Setting:
    """A random site, twice: as the program's and as the plain one."""

    def __init__(self, seed, rows=reckoning.random_rows):
        self.random = random.Random(seed)
        self.rows = rows(self.random)
        self.site = reckoning.site_of(self.rows)
        self.spots = reckoning.spots_of(self.rows)

    def places(self):
        return reckoning.random_places(self.random, self.rows)

    def hold(self):
        """Return some spots in a random order."""
        return self.random.sample(self.spots, self.random.randint(0, len(self.spots)))


class SitesTest(Case):
    def test_present_standings_open_doors_and_unmet_needs(self):
        sound = 0
        for seed in range(600):
            one = Setting(seed)
            places, spots = one.places(), one.hold()
            hold = Hold(spots)
            found = [(row["name"], name) for row, name in reckoning.present(one.rows, places, spots)]
            self.assertEqual(one.site.present(places, hold), tuple(found), seed)
            doors = one.site.opened(places, hold)
            self.assertEqual(len(doors), len(set(doors)), seed)
            self.assertEqual(set(doors), reckoning.opened(one.rows, places, spots), seed)
            need = reckoning.first_unmet(one.rows, places, spots)
            self.assertEqual(one.site.unmet(places, hold), need, seed)
            sound += need is None
            for door in doors:
                kind, standing = one.site.giver(door, places, hold)
                self.assertIn(door, reckoning.row_of(one.rows, kind)["gives"][standing], seed)
        self.assertGreater(sound, 100)
        self.assertLess(sound, 500)


class GreatestTest(Case):
    def test_the_grown_hold_whatever_the_order_of_adding(self):
        greater = 0
        for seed in range(900):
            one = Setting(seed)
            places, spots = one.places(), one.hold()
            need = reckoning.first_unmet(one.rows, places, spots)
            if need is not None:
                self.unmet(need, grown, one.site, places, Hold(spots))
                continue
            found = list(grown(one.site, places, Hold(spots)))
            for _ in range(4):
                self.assertEqual(found, reckoning.grown_in_turn(one.random, one.rows, places, spots), seed)
            greater += len(found) > len(spots)
        self.assertGreater(greater, 100)

    def test_the_kept_hold_among_all_subsets(self):
        lesser = 0
        for seed in range(900):
            one = Setting(seed)
            places, after, spots = one.places(), one.places(), one.hold()
            found = kept(one.site, places, after, Hold(spots))
            parts = reckoning.kept_of_all(one.rows, places, after, spots)
            greatest = max(parts, key=len)
            self.assertTrue(all(part <= greatest for part in parts), seed)
            self.assertEqual(list(found), reckoning.in_order(one.rows, greatest), seed)
            lesser += 0 < len(found) < len(spots)
        self.assertGreater(lesser, 80)

    def test_crossings(self):
        possible = refused = 0
        for seed in range(900):
            one = Setting(seed)
            places, after, spots = one.places(), one.places(), one.hold()
            part = max(reckoning.kept_of_all(one.rows, places, after, spots), key=len)
            found = crossed(one.site, places, after, Hold(spots))
            if any(reckoning.first_unmet(one.rows, where, part) is not None for where in (places, after)):
                self.assertIsNone(found, seed)
                refused += 1
            else:
                self.assertEqual(list(found), reckoning.grown_in_turn(one.random, one.rows, after, part), seed)
                possible += 1
        self.assertGreater(min(possible, refused), 100)


class PlainYard:
    """Places and counts, and the five deeds on them; a deed returns its error, or None."""

    def __init__(self, rows, places, counts):
        self.rows, self.places, self.counts = rows, places, counts

    def become(self, places, counts):
        counts = {spot: count for spot, count in counts.items() if count > 0}
        need = reckoning.first_unmet(self.rows, places, counts)
        if need is not None:
            return Unmet(*need)
        self.places, self.counts = places, counts

    def play(self, word, *given):
        return getattr(self, word)(*given)

    def many(self, kind):
        return [row for row in self.rows if row["name"] == kind and not row["one"]]

    def put(self, kind, count):
        if not self.many(kind):
            return Unknown(kind)
        if count < 1:
            return BadCount(count)
        spot = (kind, self.many(kind)[0]["standings"][0])
        return self.become(self.places, {**self.counts, spot: self.counts.get(spot, 0) + count})

    def step(self, kind, before, after, count):
        if not self.many(kind):
            return Unknown(kind)
        row, counts = self.many(kind)[0], dict(self.counts)
        for name in (before, after):
            if name not in row["standings"]:
                return Unknown(name)
        if (before, after) not in row["steps"]:
            return NoStep(before, after)
        if count < 1:
            return BadCount(count)
        if counts.get((kind, before), 0) < count:
            return Lacking(kind, before)
        counts[kind, before] -= count
        counts[kind, after] = counts.get((kind, after), 0) + count
        return self.become(self.places, counts)

    def wrong(self, rows):
        """Return the error that a lot of these rows gives before the deed, or None."""
        added = {}
        for kind, name, count in rows:
            if count < 1:
                return BadCount(count)
            added[kind, name] = added.get((kind, name), 0) + count
        for kind, name in added:
            if not self.many(kind):
                return Unknown(kind)
            if name not in self.many(kind)[0]["standings"]:
                return Unknown(name)
        for spot, count in added.items():
            if count > self.counts.get(spot, 0):
                return Lacking(*spot)

    def take(self, rows):
        counts = dict(self.counts)
        error = self.wrong(rows)
        if error is None:
            for kind, name, count in rows:
                counts[kind, name] -= count
            error = self.become(self.places, counts)
        return error

    def leave(self, rows):
        counts = {}
        for kind, name, count in rows:
            counts[kind, name] = counts.get((kind, name), 0) + count
        return self.wrong(rows) or self.become(self.places, counts)

    def move(self, kind, name):
        singles = [row for row in self.rows if row["one"]]
        names = [row["name"] for row in singles]
        if kind not in names:
            return Unknown(kind)
        at = names.index(kind)
        before = self.places[at]
        if name not in singles[at]["standings"]:
            return Unknown(name)
        if (before, name) not in singles[at]["steps"]:
            return NoStep(before, name)
        return self.become(self.places[:at] + (name,) + self.places[at + 1:], self.counts)


def random_lot(pick, plain):
    """Return rows that often, but not always, fit the yard."""
    rows = [(*spot, pick.randint(1, count)) for spot, count in plain.counts.items() if pick.random() < 0.7]
    if pick.random() < 0.2:
        rows.append((pick.choice("kq") + pick.choice("0123"), pick.choice("abcd"), pick.randint(0, 3)))
    pick.shuffle(rows)
    return tuple(rows)


def random_deed(pick, plain):
    kinds = [row["name"] for row in plain.rows] + ["q0"]
    word = pick.choice(Yard.WORDS)
    kind, before, after = pick.choice(kinds), pick.choice("abcd"), pick.choice("abcd")
    count = pick.choice([0, 1, 1, 2, 3, 5])
    given = {"put": (kind, count), "step": (kind, before, after, count), "move": (kind, after)}
    return (word, *(given[word] if word in given else (random_lot(pick, plain),)))


def do(yard, deed):
    """Do a deed on a yard by its method."""
    word, *given = deed
    if word == "move":
        yard[given[0]] = given[1]
    elif word in ("take", "leave"):
        getattr(yard, word)(Lot(*given))
    else:
        getattr(yard, word)(*given)


class YardsTest(Case):
    def same(self, yard, plain, seed):
        rows = [(*spot, plain.counts[spot]) for spot in reckoning.spots_of(plain.rows) if spot in plain.counts]
        self.assertEqual((yard.placed(), list(yard)), (plain.places, rows), seed)
        self.assertEqual({door for door in reckoning.DOORS if door in yard},
                         reckoning.opened(plain.rows, plain.places, plain.counts), seed)

    def yards(self, most):
        """Yield random yards, each with its plain one and a source of random numbers."""
        for seed in range(most):
            one = Setting(seed)
            places, counts = one.places(), {spot: one.random.randint(1, 4) for spot in one.hold()}
            if reckoning.first_unmet(one.rows, places, counts) is None:
                yard = Yard(one.site, places, Lot([(*spot, count) for spot, count in counts.items()]))
                yield seed, one.random, yard, PlainYard(one.rows, places, counts)

    def test_deeds_one_after_the_other(self):
        seen = {}
        for seed, pick, yard, plain in self.yards(700):
            for _ in range(25):
                deed = random_deed(pick, plain)
                expected = plain.play(*deed)
                if expected is None:
                    do(yard, deed)
                elif isinstance(expected, Unmet):
                    self.unmet((expected.kind, expected.standing, expected.door), do, yard, deed)
                else:
                    self.refused(expected, do, yard, deed)
                self.same(yard, plain, seed)
                seen[deed[0], type(expected)] = True
        for word in Yard.WORDS:
            for shape in (type(None), Unknown, Unmet):
                self.assertIn((word, shape), seen)

    def test_plays_of_several_deeds(self):
        well = 0
        for seed, pick, yard, plain in self.yards(700):
            for _ in range(8):
                before = (plain.places, plain.counts)
                deeds, expected = [], None
                while len(deeds) < 3 and expected is None:
                    deeds.append(random_deed(pick, plain))
                    expected = plain.play(*deeds[-1])
                if expected is None:
                    yard.play(*deeds)
                    well += 1
                else:
                    plain.places, plain.counts = before
                    self.refused(expected, yard.play, *deeds, random_deed(pick, plain))
                self.same(yard, plain, seed)
        self.assertGreater(well, 100)


if __name__ == "__main__":
    unittest.main()

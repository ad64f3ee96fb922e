"""Offsets for tiered towns, and for any town by trying: points [67] to [69]."""

import itertools
import random

from crossinglights.arranging import Arrangement, arrange
from crossinglights.errors import BadNumber, NotTiered, TooMany
from crossinglights.lanes import Road
from crossinglights.pairs import alone, street_net
from crossinglights.settling import Cases, Miss, Setting
from crossinglights.towns import Town
from crossinglights.trials import Trial, trial
from crossinglights.verdicts import Breach, Table, judge
from tests.support import Case, keeps, road_site
from tests.test_pairs import not_tiered, three_sites
from tests.townmodel import BREACH, CALLS, CASES, tiered_town, town_of


def attributes(arrangement):
    """The attributes of an arrangement that are not None."""
    names = ("site", "breach", "settling", "offsets", "town")
    return [name for name in names if getattr(arrangement, name) is not None]


class ArrangeTest(Case):
    """Points [67] and [68]."""

    def check_all_offsets(self, town, found):
        """Check point [68] for all offsets with the first one 0; turned towns are alike."""
        whole = all(isinstance(judge(alone(town, site), 3000), Table) for site in range(len(town.sites)))
        self.assertEqual(found.site is None, whole)
        for others in itertools.product(range(town.length), repeat=len(town.sites) - 1):
            offsets = (0, *others)
            good = whole and keeps(street_net(town, 3000), offsets)
            self.assertIs(type(judge(town.at(offsets), 3000)), Table if good else Breach)

    def test_random_towns(self):
        rng, kinds = random.Random(68), {}
        for _ in range(40):
            town = tiered_town(rng)
            try:
                found = arrange(town, 3000)
                self.check_all_offsets(town, found)
            except TooMany:
                continue
            self.assertIs(type(found), Arrangement)
            kind = "site" if found.settling is None else type(found.settling)
            kinds[kind] = kinds.get(kind, 0) + 1
            if kind == Setting:
                self.assertEqual(attributes(found), ["settling", "offsets", "town"])
                self.assertEqual((found.offsets, found.town), (found.settling.beats, town.at(found.offsets)))
                self.assertIs(type(found.offsets), tuple)
                self.assertIsInstance(judge(found.town, 3000), Table)
            elif kind != "site":
                self.assertEqual(attributes(found), ["settling"])
            if kind != "site":
                self.assertEqual(found.settling.net, street_net(town, 3000))
        self.assertEqual(set(kinds), {"site", Setting, Miss})

    def test_three_streets(self):
        town = town_of(CASES)
        found = arrange(town)
        self.assertIs(type(found.settling), Cases)
        self.assertEqual(attributes(found), ["settling"])
        for offset in range(3):
            self.assertIsInstance(judge(town.at([0, offset]), 5000), Breach)

    def test_the_first_broken_site(self):
        site = town_of(BREACH).sites[0]
        calm = road_site(Road(1), length=5)
        found = arrange(Town([calm, site, site], [1, 2, 3], []))
        self.assertEqual(attributes(found), ["site", "breach"])
        self.assertEqual((found.site, found.breach.row, found.breach.breaks),
                         (1, [(1, 0), (0, 0), (1, 0)], (("full", 0),)))
        self.assertEqual(found.breach.town, Town([site], [0], []))
        self.assertEqual(attributes(arrange(Town([site, calm], [0, 0], []))), ["site", "breach"])
        self.assertEqual(arrange(Town([site, calm], [0, 0], [])).site, 0)

    def test_towns_without_streets(self):
        town = Town([road_site(Road(1))] * 3, [1, 2, 3], [])
        found = arrange(town)
        self.assertEqual((found.offsets, found.town), ((0, 0, 0), town.at([0, 0, 0])))
        self.assertEqual(found.settling.told(), "net of 3 nodes: setting 0 0 0")

    def test_most(self):
        for most in (0, 5001, -10 ** 9):
            for town in (three_sites(), not_tiered()[0]):
                self.assert_fails(BadNumber, {"number": most}, arrange, town, most)
        for town in not_tiered():
            self.assert_fails(NotTiered, {}, arrange, town, 1)

    def test_too_many(self):
        few, many = town_of(BREACH).sites[0], town_of(CALLS).sites[0]
        self.assert_fails(TooMany, {"number": 3}, arrange, Town([few], [0], []), 3)
        self.assert_fails(TooMany, {"number": 3}, arrange, Town([many], [0], []), 3)
        # A site behind a broken one is not looked at.
        broken = town_of(["round 4", "site 0", "stream a road 1", "stream b road 1", "rival a b 0 0", "main 4 0 : a b"])
        found = arrange(Town([broken.sites[0], many], [0, 0], []), 1)
        self.assertEqual((found.site, found.breach.row), (0, [(0, 0)]))
        # The sites alone have 81 and 3 states, the pairs of the third street have 135.
        self.assertEqual(len(judge(alone(town_of(CASES), 0), 81)), 81)
        for most in (80, 81, 134):
            self.assert_fails(TooMany, {"number": most}, arrange, town_of(CASES), most)
        self.assertIs(type(arrange(town_of(CASES), 135).settling), Cases)

    def test_the_town_stays_as_it_was(self):
        town = town_of(CASES)
        arrange(town), trial(town, 5000)
        self.assertEqual(town, town_of(CASES))


class TrialTest(Case):
    """Point [69]."""

    def test_random_towns(self):
        rng, none, some = random.Random(69), 0, 0
        for _ in range(40):
            town = tiered_town(rng)
            try:
                found, wanted = trial(town, 2000), arrange(town, 2000)
            except TooMany:
                continue
            self.assertIs(type(found), Trial)
            self.assertEqual(found.offsets, wanted.offsets)
            rows = [(0, *others) for others in itertools.product(range(town.length), repeat=len(town.sites) - 1)]
            before = rows if found.offsets is None else rows[:rows.index(found.offsets)]
            self.check_breaches(town, found, before)
            if found.offsets is None:
                self.assertIsNone(found.table)
                none += 1
            else:
                self.assertEqual(found.table.town, town.at(found.offsets))
                self.assertEqual(sorted(found.table), sorted(judge(town.at(found.offsets), 2000)))
                some += 1
        self.assertGreater(min(some, none), 10)

    def check_breaches(self, town, found, before):
        """The breaches are those of all offsets before the good ones."""
        self.assertIs(type(found.breaches), list)
        self.assertEqual([breach.town for breach in found.breaches], [town.at(offsets) for offsets in before])
        for breach, offsets in zip(found.breaches, before):
            self.assertEqual((breach.row, breach.breaks), (judge(town.at(offsets), 2000).row,
                                                           judge(town.at(offsets), 2000).breaks))

    def test_towns_that_are_not_tiered(self):
        for town in not_tiered():
            found = trial(town)
            self.assertEqual((found.offsets, found.breaches), ((0,) * len(town.sites), []))
        ring = town_of(["round 3", "site 1", "stream a road 1 rate 1 1/3", "stream b road 0", "main 2 0 : a",
                        "phase 1 1 0 : b", "site 2", "stream c road 1 rate 1 1/3", "stream d road 0", "main 2 0 : c",
                        "phase 1 1 0 : d", "street 0 a 1 d 2", "street 1 c 0 b 1"])
        found = trial(ring, 5000)
        self.assertFalse(ring.tiered)
        self.assertEqual((found.offsets, found.table, len(found.breaches)), (None, None, 3))
        wide = ring.changed(1, capacity=9).changed(3, capacity=9)
        self.assertEqual(trial(wide, 5000).offsets, (0, 0))

    def test_one_site(self):
        self.assertEqual(trial(town_of(CALLS)).offsets, (0,))
        found = trial(town_of(BREACH))
        self.assertEqual((found.offsets, found.table, [breach.row for breach in found.breaches]),
                         (None, None, [[(1, 0), (0, 0), (1, 0)]]))

    def test_errors(self):
        for most in (0, 5001, -10 ** 9):
            self.assert_fails(BadNumber, {"number": most}, trial, not_tiered()[0], most)
        self.assert_fails(TooMany, {"number": 3}, trial, town_of(BREACH), 3)
        self.assert_fails(TooMany, {"number": 1}, trial, town_of(CASES), 1)

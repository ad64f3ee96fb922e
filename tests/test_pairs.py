"""Tiered towns, taken apart: points [65] and [66], and the second half of point [72]."""

import random

from crossinglights.beats import Beats
from crossinglights.behind import good_shifts
from crossinglights.depths import Growth, depth
from crossinglights.errors import BadNumber, NotTiered, TooMany, UnknownSite, UnknownStreet
from crossinglights.lanes import Road
from crossinglights.lights import quiet, shown
from crossinglights.nets import Net
from crossinglights.openlights import near_pair
from crossinglights.pairs import alone, good_differences, pair_town, street_net
from crossinglights.phases import Phase
from crossinglights.rates import Rate
from crossinglights.sites import Site
from crossinglights.streets import Street
from crossinglights.towns import Town
from crossinglights.verdicts import Table, judge
from tests.support import Case, random_books, road_site
from tests.townmodel import CASES, tiered_town, town_of

RATE = Rate(1, 1, 4)


def three_sites():
    """A town of three sites, with streets from site 2 to site 0 and from site 1 to site 0."""
    back = road_site(Road(1), Road(2), Road(3))
    front = road_site(Road(4, rate=RATE), Road(5))
    other = road_site(Road(6), Road(7, rate=RATE))
    return Town([back, front, other], [1, 2, 3], [Street((2, 1), (0, 2), 5), Street((1, 0), (0, 0), 3)])


def not_tiered():
    """Towns that are not tiered."""
    site = road_site(Road(1), Road(1))
    held = road_site(Road(1), Road(1), phases=[Phase([1], holds=[0])])
    return [Town([site, site], [0, 0], [Street((0, 0), (1, 0), 1), Street((1, 1), (0, 1), 1)]),
            Town([site], [0], [Street((0, 0), (0, 1), 1)]), Town([site, held], [0, 0], [Street((0, 0), (1, 0), 1)])]


class AloneTest(Case):
    def test_alone(self):
        town = three_sites()
        for number, site in enumerate(town.sites):
            self.assertEqual(alone(town, number), Town([site], [0], []))
        self.assertEqual(town, three_sites())

    def test_errors(self):
        for site in (-1, 3, 10 ** 9):
            self.assert_fails(UnknownSite, {"number": site}, alone, three_sites(), site)
        for town in not_tiered():
            self.assert_fails(NotTiered, {}, alone, town, 0)
            self.assert_fails(NotTiered, {}, alone, town, 9)


class PairTownTest(Case):
    def test_pair_town(self):
        town = three_sites()
        back, front, other = town.sites
        for difference, offset in ((0, 0), (3, 3), (4, 0), (-1, 3), (10 ** 9, 0), (-10 ** 9 + 2, 2)):
            self.assertEqual(pair_town(town, 0, difference),
                             Town([other, back], [0, offset], [Street((0, 1), (1, 2), 5)]))
            self.assertEqual(pair_town(town, 1, difference),
                             Town([front, back], [0, offset], [Street((0, 0), (1, 0), 3)]))
        self.assertEqual(town, three_sites())

    def test_errors(self):
        for street in (-1, 2, 10 ** 9):
            self.assert_fails(UnknownStreet, {"number": street}, pair_town, three_sites(), street, 0)
        for town in not_tiered():
            self.assert_fails(NotTiered, {}, pair_town, town, 0, 0)
            self.assert_fails(NotTiered, {}, pair_town, town, 9, 0)


class GoodDifferencesTest(Case):
    """Point [66]."""

    def test_random_towns(self):
        rng, sizes = random.Random(66), set()
        for _ in range(40):
            town = tiered_town(rng)
            ties = []
            for number, street in enumerate(town.streets):
                wanted = [d for d in range(town.length) if isinstance(judge(pair_town(town, number, d), 2000), Table)]
                found = good_differences(town, number, 2000)
                self.assertEqual(found, Beats(town.length, wanted))
                ties.append((street.start[0], street.end[0], found))
                sizes.add(len(found))
            self.assertEqual(street_net(town, 2000), Net(town.length, len(town.sites), ties))
        self.assertGreater(len(sizes), 2)

    def test_the_direction_of_the_difference(self):
        # What leaves in the beat 0 comes in the beat 1, which the second site with the offset 1 numbers 0.
        town = town_of(["round 4", "site 2", "stream b road 0", "main 3 0 :", "phase 1 1 0 : b", "site 3",
                        "stream a road 2 rate 1 1/4", "main 3 0 :", "phase 1 1 0 : a", "street 1 a 0 b 1"])
        self.assertEqual(good_differences(town, 0), Beats(4, [1]))
        self.assertEqual(street_net(town), Net(4, 2, [(1, 0, Beats(4, [1]))]))

    def test_three_streets(self):
        sets = [[0, 1], [1, 2], [0, 2]]
        self.assertEqual([list(good_differences(town_of(CASES), street)) for street in range(3)], sets)
        self.assertEqual(street_net(town_of(CASES)), Net(3, 2, [(0, 1, Beats(3, beats)) for beats in sets]))

    def test_towns_without_streets(self):
        town = Town([road_site(Road(1))] * 4, [0] * 4, [])
        self.assertEqual(street_net(town), Net(4, 4, []))

    def test_errors(self):
        town = town_of(CASES)
        for most in (0, 5001, -10 ** 9):
            self.assert_fails(BadNumber, {"number": most}, good_differences, not_tiered()[0], 9, most)
            self.assert_fails(BadNumber, {"number": most}, street_net, not_tiered()[0], most)
        for other in not_tiered():
            self.assert_fails(NotTiered, {}, good_differences, other, 9, 1)
            self.assert_fails(NotTiered, {}, street_net, other, 1)
        for street in (-1, 3, 10 ** 9):
            self.assert_fails(UnknownStreet, {"number": street}, good_differences, town, street, 1)
        self.assert_fails(TooMany, {"number": 1}, good_differences, town, 0, 1)
        self.assert_fails(TooMany, {"number": 1}, street_net, town, 1)

    def test_too_many_in_one_of_the_pairs(self):
        rng, checked = random.Random(67), 0
        for _ in range(30):
            town = tiered_town(rng)
            counts = []
            for street in range(len(town.streets)):
                for difference in range(town.length):
                    verdict = judge(pair_town(town, street, difference), 5000)
                    counts.append(len(verdict) if isinstance(verdict, Table) else 0)
            most = max(counts)
            if 1 < most and 0 not in counts:
                street_net(town, most)
                self.assert_fails(TooMany, {"number": most - 1}, street_net, town, most - 1)
                checked += 1
        self.assertGreater(checked, 3)


class ShiftsTest(Case):
    """The second half of point [72]."""

    def green_of(self, book, stream):
        return Beats(book.length, [lights[0] for lights in quiet(book) if stream in shown(book, lights)])

    def test_good_shifts(self):
        rng, checked, sizes = random.Random(72), 0, set()
        books = [book for book in random_books(72, 1500, lengths=(3, 4, 5)) if book.fixed and near_pair(book) is None]
        for first in books:
            second = rng.choice([book for book in books if book.length == first.length])
            rate = Rate(rng.choice([1, 2]), 1, rng.randint(2, 6))
            travel, capacity = rng.randint(1, 6), rng.choice([0, 1])
            start, end = rng.randrange(len(first.crossing)), rng.randrange(len(second.crossing))
            green = self.green_of(first, start)
            if isinstance(depth(rate, green), Growth) or any(end in phase.holds for phase in second.phases):
                continue
            lanes = [Road(9) for _ in first.crossing.streams]
            lanes[start] = Road(depth(rate, green).number, rate=rate)
            others = [Road(capacity) for _ in second.crossing.streams]
            town = Town([Site(first, lanes), Site(second, others)], [0, 0], [Street((0, start), (1, end), travel)])
            wanted = good_shifts(rate, green, self.green_of(second, end), capacity) >> travel
            self.assertEqual(good_differences(town, 0, 5000), wanted)
            checked += 1
            sizes.add(len(wanted))
        self.assertGreater(checked, 30)
        self.assertGreater(len(sizes), 3)

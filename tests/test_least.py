"""Least numbers: point [71], the first half of point [72], and point [73]."""

import itertools
import random

from crossinglights.beats import Beats
from crossinglights.changes import least_walk
from crossinglights.depths import Growth, depth
from crossinglights.enough import load
from crossinglights.errors import BadNumber, TooMany, UnknownLane, UnknownName
from crossinglights.lanes import Road
from crossinglights.least import Least, least
from crossinglights.lights import quiet, shown
from crossinglights.openlights import near_pair
from crossinglights.rates import Rate
from crossinglights.sites import Site
from crossinglights.towns import Town
from crossinglights.verdicts import Breach, Table, judge
from tests.support import Case, random_book, random_books, random_crossing
from tests.townmodel import BREACH, CALLS, MIXED, random_towns, town_of

HIGH = {"bound": 24, "capacity": 9, "bus": 12}


def bus_town(rng):
    """A town in which a bus has to wait for some beats."""
    first, second = rng.randint(1, 4), rng.randint(1, 3)
    rate = f"{rng.randint(1, 2)} 1/{rng.randint(4, 6)}"
    return town_of(["round 8", "site 0", f"stream a road {rng.randint(1, 3)} rate {rate} bus 9", "stream b foot 24",
                    "main 1 0 :" + rng.choice(["", " a"]), f"phase {second} {second} 0 : b" + rng.choice(["", " ? b"]),
                    f"phase {first} {first} 0 : a" + rng.choice(["", " ? b"])])


class LeastTest(Case):
    """Point [71]."""

    def check_least(self, town, number, part):
        """Check all that is found for a part of a lane; return the number that is found."""
        found = least(town, number, part, 400)
        low = 0 if part == "capacity" else 1
        high = HIGH[part] if found.number is None else found.number - 1
        self.assertIs(type(found), Least)
        self.assertEqual(found.part, part)
        tried = [town.changed(number, **{part: value}) for value in range(low, high + 1)]
        self.assertEqual([breach.town for breach in found.breaches], tried)
        for other, breach in zip(tried, found.breaches):
            self.assertEqual((breach.row, breach.breaks), (judge(other, 400).row, judge(other, 400).breaks))
        if found.number is None:
            self.assertIsNone(found.table)
            return None
        self.assertEqual(found.table.town, town.changed(number, **{part: found.number}))
        self.assertEqual(sorted(found.table), sorted(judge(found.table.town, 400)))
        self.check_facts(town, number, part, found)
        return found.number

    def check_facts(self, town, number, part, found):
        """Check the facts of point [71]."""
        for value in (found.number + 1, HIGH[part]):
            value = min(value, HIGH[part])
            self.assertIsInstance(judge(town.changed(number, **{part: value}), 5000), Table)
        if part == "capacity":
            self.assertEqual(found.table.greatest(number), found.number)
        elif part == "bus":
            self.assertLessEqual(found.table.longest(number), found.number)
        elif found.number > 1 or found.table.longest(number) > 0:
            self.assertEqual(found.table.longest(number), found.number)

    def test_random_towns(self):
        numbers = {"bound": {}, "capacity": {}, "bus": {}}
        rng = random.Random(71)
        towns = [*random_towns(71, 40, calm=0.95, most_sites=2, most_streams=2, sources=2),
                 *[bus_town(rng) for _ in range(30)]]
        for town in towns:
            for number in range(len(town)):
                lane = town.lane(number)
                for part in ["bound"] if lane.foot else ["capacity"] + ["bus"] * (lane.bus > 0):
                    try:
                        found = self.check_least(town, number, part)
                    except TooMany:
                        continue
                    numbers[part][found] = numbers[part].get(found, 0) + 1
        for part in numbers:
            self.assertGreater(len(numbers[part]), 3, part)
            self.assertIn(None, numbers[part])

    def test_examples(self):
        town = town_of(CALLS)
        found = least(town, 1, "bound")
        self.assertEqual((found.part, found.number, len(found.breaches)), ("bound", 4, 3))
        self.assertEqual([breach.breaks for breach in found.breaches], [(("late", 1),)] * 3)
        self.assertEqual((least(town, 0, "capacity").number, len(least(town, 0, "capacity").breaches)), (1, 1))
        none = least(town_of(BREACH), 1, "capacity")
        self.assertEqual((none.part, none.number, none.table, len(none.breaches)), ("capacity", None, None, 10))
        self.assertEqual((town, town_of(BREACH)), (town_of(CALLS), town_of(BREACH)))

    def test_a_bound_of_one_that_nobody_needs(self):
        town = town_of(["round 2", "site 0", "stream a foot 9", "main 2 0 : a"])
        found = least(town, 0, "bound")
        self.assertEqual((found.number, found.table.longest(0), found.breaches), (1, 0, []))

    def test_buses(self):
        town = town_of(["round 4", "site 0", "stream a road 2 rate 1 1/4 bus 9", "main 1 0 :", "phase 1 1 0 : a",
                        "phase 2 2 0 :"])
        found = least(town, 0, "bus")
        self.assertEqual((found.number, found.table.longest(0)), (3, 3))
        # No bus is late with a lesser number than the best one only because the road is full before.
        self.assertEqual([breach.breaks for breach in found.breaches], [(("late", 0),)] * 2)

    def test_unknown_lanes_and_parts(self):
        town = town_of(MIXED)
        for number in (-1, 5, 10 ** 9):
            self.assert_fails(UnknownLane, {"number": number}, least, town, number, "color", 1)
        for number, part in ((0, "bound"), (0, "bus"), (1, "bus"), (2, "capacity"), (2, "bus"), (4, "bound"),
                             (0, "rate"), (0, ""), (4, "Bus"), (2, "number")):
            self.assert_fails(UnknownName, {"name": part}, least, town, number, part, 1)

    def test_most(self):
        town = town_of(MIXED)
        for most in (0, 5001, -10 ** 9):
            self.assert_fails(BadNumber, {"number": most}, least, town, 99, "color", most)
        self.assert_fails(TooMany, {"number": 1}, least, town, 0, "capacity", 1)
        calls = town_of(CALLS)
        sizes = []
        for bound in range(1, 5):
            verdict = judge(calls.changed(1, bound=bound), 5000)
            sizes.append(len(verdict) if isinstance(verdict, Table) else 0)
        self.assertEqual(least(calls, 1, "bound", sizes[-1]).number, 4)
        self.assert_fails(TooMany, {"number": sizes[-1] - 1}, least, calls, 1, "bound", sizes[-1] - 1)


class DepthTest(Case):
    """The first half of point [72]."""

    def test_depths(self):
        rng, numbers = random.Random(72), {}
        for book in random_books(73, 400, lengths=(2, 3, 4, 5)):
            if not book.fixed or near_pair(book) is not None:
                continue
            stream = rng.randrange(len(book.crossing))
            green = Beats(book.length, [lights[0] for lights in quiet(book) if stream in shown(book, lights)])
            rate = Rate(rng.randint(1, 3), 1, rng.randint(1, 6))
            lanes = [Road(rng.randint(0, 9)) for _ in book.crossing.streams]
            lanes[stream] = Road(rng.randint(0, 9), rate=rate)
            found = least(Town([Site(book, lanes)], [rng.randrange(book.length)], []), stream, "capacity", 5000).number
            course = depth(rate, green)
            wanted = None if isinstance(course, Growth) or course.number > 9 else course.number
            self.assertEqual(found, wanted)
            numbers[found] = numbers.get(found, 0) + 1
        self.assertGreater(sum(numbers.values()), 50)
        self.assertGreater(len(numbers), 3)


class CrowdTest(Case):
    """Point [73]."""

    def is_hopeless(self, crossing, rates, length):
        """Return True if a crowd has too much load for its least walk."""
        for many in (2, 3):
            for crowd in itertools.combinations(range(len(crossing)), many):
                pairs = itertools.combinations(crowd, 2)
                if all(crossing.span(*pair) is not None and rates[pair[0]] and rates[pair[1]] for pair in pairs):
                    num, den = load(rates, crowd)
                    if length * (den - num) < least_walk(crossing, crowd) * den:
                        return True
        return False

    def test_hopeless_crossings(self):
        rng, checked = random.Random(73), 0
        for _ in range(450):
            crossing, length = random_crossing(rng, rng.choice([2, 3]), 3), rng.choice([3, 4, 6])
            rates = [rng.choice([None, Rate(1, 1, rng.randint(1, 6)), Rate(1, 1, rng.randint(1, 6))])
                     for _ in crossing.streams]
            if self.is_hopeless(crossing, rates, length):
                lanes = [Road(rng.randint(0, 9), rate=rate) for rate in rates]
                town = Town([Site(random_book(rng, crossing, length), lanes)], [0], [])
                try:
                    self.assertIsInstance(judge(town, 3000), Breach)
                    checked += 1
                except TooMany:
                    continue
        self.assertGreater(checked, 100)

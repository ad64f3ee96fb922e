"""Short tables: point [63], and the first fact of point [64]."""

import random

from crossinglights.errors import BadNumber, Broken, TooMany, UnknownState
from crossinglights.shorttables import Short, last_lanes, rest_of, short_table
from crossinglights.states import comings_list, first_state
from crossinglights.stepping import after
from crossinglights.towns import Town
from crossinglights.verdicts import Table, Verdict, judge
from tests.support import Case
from tests.townmodel import BREACH, CALLS, MIXED, random_towns, town_of, walked

# Lane 0 feeds lane 2; lane 1 and lane 2 are last lanes.
QUEUES = ["round 4", "site 0", "stream a road 1 rate 1 1/4", "stream b road 3 rate 2 1/4", "main 3 0 : a",
          "phase 1 1 0 : b", "site 1", "stream c road 2", "stream d foot 9", "main 2 0 : c", "phase 1 1 0 : d ? d",
          "street 0 a 1 c 2"]


def queue_town(rng):
    """A town in which the queue of a last lane can often become longer than 1."""
    length = rng.randint(3, 5)
    greens = rng.randint(1, length - 1)
    lines = [f"round {length}", "site 0",
             f"stream a road {rng.randint(2, 9)} rate {rng.randint(1, 3)} 1/{rng.randint(2, 6)}",
             rng.choice(["stream b foot 9", "stream b road 3", f"stream b road 5 rate {rng.randint(1, 2)} 1/{length}"]),
             f"main {length - greens} 0 :" + rng.choice(["", " b", " a b"]),
             f"phase {greens} {greens} 0 : a" + rng.choice(["", " ? b", ""])]
    if rng.random() < 0.4:
        lines += [f"site {rng.randrange(length)}", f"stream c road {rng.randint(0, 9)}", f"main {greens} 0 : c",
                  f"phase {length - greens} {length - greens} 0 :", f"street 0 a 1 c {rng.randint(1, 3)}"]
    return town_of(lines)


def ignoring(town):
    """The town in which the last lanes have the greatest capacity."""
    for lane in last_lanes(town):
        town = town.changed(lane, capacity=9)
    return town


def wanted_rests(town, most):
    """The rests that can be reached with the capacities of the last lanes ignored, and whether something breaks.

    None if there are more than so many. With the rests alone walked on, no queue of a last lane is longer than 1.
    """
    wide = ignoring(town)
    rests, broken = [rest_of(wide, first_state(wide))], False
    for rest in rests:
        for comings in comings_list(wide, rest):
            try:
                later = rest_of(wide, after(wide, rest, comings))
            except Broken:
                broken = True
                continue
            if later not in rests:
                rests.append(later)
        if len(rests) > most:
            return None
    return rests, broken


class LastLanesTest(Case):
    """last_lanes and rest_of."""

    def test_last_lanes(self):
        self.assertEqual(last_lanes(town_of(QUEUES)), (1, 2))
        self.assertEqual(last_lanes(town_of(MIXED)), (1, 3))
        self.assertEqual(last_lanes(town_of(BREACH)), (0, 1))
        town = town_of(QUEUES)
        self.assertEqual(last_lanes(Town(town.sites, town.offsets, [])), (0, 1, 2))
        self.assertEqual(last_lanes(town_of(["round 2", "site 0", "stream a foot 3", "main 2 0 : a"])), ())

    def test_rest_of(self):
        town = town_of(QUEUES)
        for state in walked(town, first_state(town))[0]:
            rest = rest_of(town, state)
            self.assertEqual((rest[:3], rest[4:]), (state[:3], state[4:]))
            self.assertEqual(rest[3], (state[3][0], 0, 0, 0))
            self.assertIs(type(rest[3]), tuple)

    def test_a_town_without_last_lanes(self):
        town = town_of(["round 3", "site 0", "stream a road 1 rate 1 1/3 bus 3", "stream b foot 3", "main 1 0 : a",
                        "phase 1 1 0 : b ? b"])
        table, short = judge(town), short_table(town)
        self.assertEqual(sorted(short.rests()), sorted(table.states()))
        for state in table:
            self.assertEqual(rest_of(town, state), state)
            self.assertEqual(short.heights(state), state[3])


class ShortTableTest(Case):
    def check_short(self, town, short, rows):
        """Compare a short table with all open states."""
        self.assertIs(type(short), Short)
        self.assertIsInstance(short, Verdict)
        heights = {}
        for state in rows:
            known = heights.get(rest_of(town, state), state[3])
            heights[rest_of(town, state)] = tuple(max(pair) for pair in zip(known, state[3]))
        self.assertEqual(sorted(short.rests()), sorted(heights))
        self.assertEqual(len(short), len(heights))
        self.assertEqual(short.told(), f"town of {len(town)} lanes: {len(heights)} rests")
        for rest, counts in heights.items():
            self.assertIn(rest, short)
            self.assertEqual(short.heights(rest), counts)
        for state in rows:
            self.assertEqual(state in short, state in heights)

    def check_town(self, town):
        """Check the short table of a town against all its states; return what was found."""
        found, wanted = walked(town, first_state(town), 150), wanted_rests(town, 150)
        if found is None or wanted is None:
            return []
        rests, broken = wanted
        if len(rests) > 1:
            self.assert_fails(TooMany, {"number": len(rests) - 1}, short_table, town, len(rests) - 1)
        short = short_table(town, len(rests))
        if found[1] is not None:
            self.assertIsNone(short)
            return ["none", "wide"] if not broken else ["none"]
        self.assertFalse(broken)
        self.check_short(town, short, found[0])
        long = any(max(short.heights(rest)) > 1 for rest in short.rests())
        return ["short"] + ["less"] * (len(short) < len(found[0])) + ["long"] * long

    def test_random_towns(self):
        rng, counts = random.Random(63), {}
        for town in [*random_towns(63, 150, calm=0.9, most_sites=2), *[queue_town(rng) for _ in range(200)]]:
            for word in self.check_town(town):
                counts[word] = counts.get(word, 0) + 1
        self.assertEqual(sorted(counts), ["less", "long", "none", "short", "wide"])
        self.assertGreater(min(counts.values()), 10)

    def test_the_town_of_queues(self):
        town = town_of(QUEUES)
        short, table = short_table(town), judge(town, 5000)
        self.assertIsInstance(table, Table)
        self.check_short(town, short, table.states())
        self.assertLess(len(short), len(table))
        self.assertEqual(short.town, town)

    def test_a_last_lane_that_becomes_too_long(self):
        town = town_of(QUEUES)
        greatest = judge(town, 5000).greatest(1)
        self.assertGreater(greatest, 0)
        self.assertIsNotNone(short_table(town.changed(1, capacity=greatest)))
        self.assertIsNone(short_table(town.changed(1, capacity=greatest - 1)))

    def test_the_number_of_rests_does_not_depend_on_capacities(self):
        town = town_of(["round 4", "site 0", "stream a road 3 rate 1 1/3", "main 4 0 :"])
        # Each round adds vehicles, but there are no more rests than beats with their credits.
        rests, broken = wanted_rests(town, 500)
        self.assertFalse(broken)
        self.assertIsNone(short_table(town, len(rests)))
        self.assert_fails(TooMany, {"number": len(rests) - 1}, short_table, town, len(rests) - 1)

    def test_too_many_goes_before_none(self):
        for lines in (BREACH, [line.replace("foot 4", "foot 3") for line in CALLS]):
            town = town_of(lines)
            rests, _ = wanted_rests(town, 5000)
            self.assertIsNone(short_table(town, len(rests)))
            self.assert_fails(TooMany, {"number": len(rests) - 1}, short_table, town, len(rests) - 1)

    def test_something_that_breaks_in_the_first_beat(self):
        town = town_of(["round 2", "site 0", "stream a road 0 rate 1 1/1", "stream b foot 1", "main 2 0 :"])
        self.assertIsNone(short_table(town))
        self.assertIsNone(short_table(town.changed(0, capacity=9)))

    def test_most(self):
        for most in (0, -1, 5001, 10 ** 9):
            self.assert_fails(BadNumber, {"number": most}, short_table, town_of(MIXED), most)
        self.assert_fails(TooMany, {"number": 500}, short_table, town_of(
            ["round 12", "site 0", "stream a foot 24", "stream b foot 24", "main 11 0 :", "phase 1 1 0 : a b"]))

    def test_unknown_rests(self):
        town = town_of(QUEUES)
        short = short_table(town)
        state = first_state(town)
        for other in ((), (0,), (7, *state[1:]), (*state[:3], (0, 1, 0, 0), *state[4:])):
            self.assertNotIn(other, short)
            self.assert_fails(UnknownState, {}, short.heights, other)

    def test_each_list_is_new(self):
        town = town_of(QUEUES)
        short = short_table(town)
        wanted = short.rests()
        short.rests().clear()
        self.assertEqual((short.rests(), len(short)), (wanted, len(wanted)))
        self.assertEqual(town, town_of(QUEUES))

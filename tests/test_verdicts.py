"""Verdicts: points [59] to [62], and facts of point [64]."""

import itertools
import random

from crossinglights.errors import BadNumber, Broken, NotComing, TooMany, UnknownLane, UnknownState
from crossinglights.openlights import longest_call, near_pair
from crossinglights.playing import play
from crossinglights.states import comings_list, first_state
from crossinglights.stepping import after, breaks, leaving
from crossinglights.verdicts import Breach, Table, Verdict, judge
from tests.support import Case
from tests.townmodel import BREACH, CALLS, MIXED, random_towns, town_of, walked

BUSES = ["round 4", "site 0", "stream a road 2 rate 1 1/4 bus 4", "stream b foot 8", "main 2 0 : a",
         "phase 1 1 0 : b ? b *"]


class JudgeTest(Case):
    """Points [59] and [60]."""

    def test_the_example(self):
        breach = judge(town_of(BREACH))
        self.assertEqual((breach.row, breach.breaks), ([(1, 0), (0, 0), (1, 0)], (("full", 0),)))
        self.assertIs(type(breach), Breach)
        self.assertEqual(breach.town, town_of(BREACH))

    def test_random_towns(self):
        tables, breaches, sizes = 0, 0, set()
        for town in random_towns(59, 350, calm=0.8, most_sites=2):
            found = walked(town, first_state(town), 120)
            if found is None:
                self.assert_fails(TooMany, {"number": 120}, judge, town, 120)
                continue
            rows, broken = found
            verdict = judge(town, len(rows))
            if broken is None:
                self.assertIs(type(verdict), Table)
                self.assertEqual(sorted(verdict.states()), sorted(rows))
                self.assertEqual([verdict.row_to(state) for state in rows], list(rows.values()))
                tables += 1
            else:
                self.assertIs(type(verdict), Breach)
                self.assertEqual((verdict.row, verdict.breaks), broken)
                breaches += 1
            sizes.add(len(rows))
            if len(rows) > 1:
                self.assert_fails(TooMany, {"number": len(rows) - 1}, judge, town, len(rows) - 1)
        self.assertGreater(min(tables, breaches, len(sizes)), 40)

    def test_no_lesser_row_breaks(self):
        checked = 0
        for town in random_towns(60, 400, most_sites=2, most_streams=2, calm=0.9, lengths=(3, 4)):
            try:
                verdict = judge(town, 60)
            except TooMany:
                continue
            if isinstance(verdict, Breach) and len(verdict.row) <= 4:
                checked += len(verdict.row) > 2
                self.check_least(town, verdict)
        self.assertGreater(checked, 10)

    def check_least(self, town, verdict):
        """Play all rows up to the length of that of the breach, in ascending order."""
        options = [range(1 if lane.told().startswith("road") and lane.rate is None else 3 - lane.foot)
                   for lane in [town.lane(number) for number in range(len(town))]]
        for beats in range(1, len(verdict.row) + 1):
            for row in itertools.product(itertools.product(*options), repeat=beats):
                try:
                    play(town, row)
                except NotComing:
                    continue
                except Broken as broken:
                    if broken.place == beats - 1:
                        self.assertEqual((list(row), broken.breaks), (verdict.row, verdict.breaks))
                        return
        self.fail("no row breaks")

    def test_something_that_breaks_at_once(self):
        town = town_of(["round 2", "site 0", "stream a road 1 rate 1 1/2", "stream b foot 3", "rival a b 0 0",
                        "main 2 0 : a b"])
        breach = judge(town)
        self.assertEqual((breach.row, breach.breaks), ([(0, 0)], (("near", 0, 1), ("near", 1, 0))))
        self.assertEqual(judge(town, 1).row, [(0, 0)])

    def test_most(self):
        for most in (0, -1, 5001, 10 ** 9, -10 ** 9):
            self.assert_fails(BadNumber, {"number": most}, judge, town_of(MIXED), most)
        table = judge(town_of(CALLS), 5000)
        self.assertEqual(len(judge(town_of(CALLS), len(table))), len(table))
        self.assert_fails(TooMany, {"number": len(table) - 1}, judge, town_of(CALLS), len(table) - 1)
        self.assert_fails(TooMany, {"number": 1}, judge, town_of(CALLS), 1)

    def test_too_many_also_if_something_breaks(self):
        town = town_of(BREACH)
        rows, _ = walked(town, first_state(town))
        self.assertGreater(len(rows), 4)
        self.assertEqual(judge(town, len(rows)).row, [(1, 0), (0, 0), (1, 0)])
        for most in range(1, len(rows)):
            self.assert_fails(TooMany, {"number": most}, judge, town, most)

    def test_most_is_500_if_it_is_not_passed(self):
        lines = ["round 12", "site 0", *[f"stream {name} foot 24" for name in "ab"], "main 11 0 :",
                 "phase 1 1 0 : a b"]
        self.assert_fails(TooMany, {"number": 500}, judge, town_of(lines))
        self.assertGreater(len(judge(town_of(lines), 5000)), 500)

    def test_the_town_stays_as_it_was(self):
        for lines in (BREACH, CALLS):
            town = town_of(lines)
            judge(town)
            self.assertEqual(town, town_of(lines))


class TableTest(Case):
    """Point [61]."""

    def test_a_table_is_closed(self):
        checked = 0
        for town in random_towns(61, 200, calm=1.0, most_sites=2):
            try:
                table = judge(town, 200)
            except TooMany:
                continue
            if isinstance(table, Table):
                checked += 1
                for state in table:
                    for comings in comings_list(town, state):
                        self.assertEqual(breaks(town, state, comings), [])
                        self.assertIn(after(town, state, comings), table)
        self.assertGreater(checked, 40)

    def test_states(self):
        town = town_of(CALLS)
        table = judge(town)
        rows, _ = walked(town, first_state(town))
        self.assertEqual((len(table), sorted(table), list(table)), (len(rows), sorted(rows), table.states()))
        self.assertIn(first_state(town), table)
        _, *rest = first_state(town)
        for state in ((), (0,), first_state(town)[:-1], (-1, *rest), (4, *rest), ("",)):
            self.assertNotIn(state, table)
            self.assert_fails(UnknownState, {}, table.row_to, state)
        self.assertEqual([state for state in table for _ in table][::len(table)], table.states())

    def test_rows(self):
        town = town_of(CALLS)
        table = judge(town)
        self.assertEqual(table.row_to(first_state(town)), [])
        for state in table:
            self.assertEqual(play(town, table.row_to(state))[-1], state)
        self.assertEqual(table.row_to(after(town, first_state(town), (1, 1))), [(1, 1)])

    def test_greatest_and_longest(self):
        for lines in (CALLS, BUSES):
            town = town_of(lines)
            table = judge(town)
            for lane in range(len(town)):
                self.assertEqual(table.greatest(lane), max(state[3][lane] for state in table))
            ages = [state[5][0] for state in table if state[4][0] >= 0] + [0]
            self.assertEqual(table.longest(0), max(ages))
            self.assertEqual(table.longest(1), max(state[5][1] for state in table))
        self.assertEqual((judge(town_of(CALLS)).greatest(0), judge(town_of(CALLS)).longest(1)), (1, 4))
        # A bus waits one beat while a call is served; its age goes on until the next bus can come.
        table = judge(town_of(BUSES))
        self.assertEqual((table.longest(0), max(state[5][0] for state in table)), (1, 4))

    def test_lanes_on_which_nobody_waits(self):
        town = town_of(["round 2", "site 0", "stream a road 0 rate 1 1/1 bus 3", "stream b foot 2", "stream c road 0",
                        "main 2 0 : a b"])
        table = judge(town)
        self.assertEqual([table.greatest(lane) for lane in range(3)], [0, 0, 0])
        self.assertEqual([table.longest(lane) for lane in range(3)], [0, 0, 0])
        self.assertGreater(max(state[5][0] for state in table), 0)

    def test_unknown_lanes(self):
        table = judge(town_of(CALLS))
        for lane in (-1, 2, 10 ** 9):
            self.assert_fails(UnknownLane, {"number": lane}, table.greatest, lane)
            self.assert_fails(UnknownLane, {"number": lane}, table.longest, lane)

    def test_lists_are_new(self):
        town = town_of(CALLS)
        table = judge(town)
        state = after(town, first_state(town), (1, 1))
        wanted = table.states()
        table.states().clear(), table.row_to(state).clear()
        self.assertEqual((table.states(), table.row_to(state)), (wanted, [(1, 1)]))


class ToldTest(Case):
    """Point [62]."""

    def test_verdicts(self):
        self.assertEqual(Verdict(town_of(BREACH)).told(), "town of 2 lanes:")
        one = town_of(["round 2", "site 0", "stream a road 0", "main 2 0 :"])
        verdict = Verdict(one)
        self.assertEqual((verdict.town, verdict.told()), (one, "town of 1 lanes:"))
        self.assertEqual(judge(one).told(), "town of 1 lanes: 2 states")

    def test_tables(self):
        table = judge(town_of(CALLS))
        self.assertIsInstance(table, Verdict)
        self.assertEqual(table.told(), f"town of 2 lanes: {len(table)} states")
        self.assertEqual(table.town, town_of(CALLS))

    def test_breaches(self):
        breach = judge(town_of(BREACH))
        self.assertIsInstance(breach, Verdict)
        self.assertEqual(breach.told(), "town of 2 lanes: broken in 3 beats by full 0")
        town = town_of(["round 2", "site 0", "stream a road 0 rate 1 1/1", "stream b foot 1", "stream c foot 1",
                        "rival c b 0 0", "main 2 0 : b c"])
        self.assertEqual(judge(town).told(), "town of 3 lanes: broken in 1 beats by near 1 2 near 2 1")
        late = town_of(["round 3", "site 0", "stream a road 1 rate 2 1/1 bus 1", "stream b foot 1", "main 3 0 :"])
        self.assertEqual(judge(late).told(), "town of 2 lanes: broken in 2 beats by late 1")
        self.assertEqual((judge(late).row, judge(late).breaks), ([(0, 1), (0, 0)], (("late", 1),)))


class FactsTest(Case):
    """Facts of point [64]."""

    def test_turned_towns(self):
        kinds = set()
        for town in random_towns(64, 120, calm=0.9, most_sites=2):
            try:
                verdict = judge(town, 150)
                turned = [judge(town.turned(beats), 150) for beats in range(-1, town.length)]
            except TooMany:
                continue
            kinds.add(type(verdict))
            self.assertEqual({type(other) for other in turned}, {type(verdict)})
            if isinstance(verdict, Table):
                self.assertEqual({len(other) for other in turned}, {len(verdict)})
        self.assertEqual(kinds, {Table, Breach})

    def test_more_vehicles_in_fixed_books(self):
        rng, checked = random.Random(65), 0
        for town in random_towns(66, 400, calm=1.0):
            if all(site.book.fixed for site in town.sites):
                checked += self.check_more(rng, town)
        self.assertGreater(checked, 60)

    def check_more(self, rng, town):
        """Play a row, and the same row with some vehicles left out; return how many beats came to an end."""
        state = fewer = first_state(town)
        for beat in range(20):
            comings = rng.choice(comings_list(town, state))
            some = tuple(rng.choice([0, coming]) for coming in comings)
            some = some if some in comings_list(town, fewer) else (0,) * len(town)
            if breaks(town, state, comings) or breaks(town, fewer, some):
                return beat > 3
            for one, other in zip(leaving(town, fewer, some), leaving(town, state, comings)):
                self.assertLessEqual(one, other)
            state, fewer = after(town, state, comings), after(town, fewer, some)
            for one, other in zip(fewer[3], state[3]):
                self.assertLessEqual(one, other)
        return True

    def test_books_without_near_pairs_and_long_calls(self):
        seen = set()
        for town in random_towns(67, 250, calm=0.6, most_sites=2):
            try:
                verdict = judge(town, 150)
            except TooMany:
                continue
            if isinstance(verdict, Breach):
                seen |= {self.check_break(town, entry) for entry in verdict.breaks}
        self.assertEqual(seen, {"full", "late", "near"})

    def check_break(self, town, entry):
        """Check that the book of its site lets the break happen; return its word."""
        place, stream = town.pair(entry[1])
        site = town.sites[place]
        buses = any(not lane.foot and lane.bus for lane in site.lanes)
        if entry[0] == "near":
            self.assertIsNotNone(near_pair(site.book, buses=buses))
        if entry[0] == "late" and site.lanes[stream].foot:
            beats = longest_call(site.book, stream, buses=buses)
            self.assertTrue(beats is None or beats > site.lanes[stream].bound)
        return entry[0]

"""What a beat does: points [56] and [57], and the sums of point [64]."""

import random

from crossinglights.errors import Broken, NotComing
from crossinglights.rates import Rate
from crossinglights.states import comings_list, first_state, green_lanes
from crossinglights.stepping import after, breaks, leaving
from tests.support import Case
from tests.townmodel import MIXED, SMALL, Model, random_towns, town_of


def states_along(town, *row):
    """The states behind each of the comings."""
    states = [first_state(town)]
    for comings in row:
        states.append(after(town, states[-1], comings))
    return states[1:]


class RandomRunsTest(Case):
    """All of points [53] to [57], against a second account of what happens."""

    def check_beat(self, town, model, state, comings):
        """Check one beat; return the model and the state behind it, None for the state if something breaks."""
        later = model.copy()
        gone, wanted = later.beat(comings)
        self.assertEqual(leaving(town, state, comings), gone)
        self.assertEqual(breaks(town, state, comings), wanted)
        if wanted:
            self.assert_fails(Broken, {"place": 0, "breaks": tuple(wanted)}, after, town, state, comings)
            return later, None
        found = after(town, state, comings)
        self.assertEqual(found, later.state())
        return later, found

    def check_run(self, rng, town, beats):
        model, state, kinds = Model(town), first_state(town), set()
        for _ in range(beats):
            self.assertEqual(comings_list(town, state), model.comings())
            self.assertEqual(green_lanes(town, state), tuple(sorted(model.green())))
            comings = rng.choice(model.comings())
            later, found = self.check_beat(town, model, state, comings)
            if found is None:
                kinds |= {entry[0] for entry in breaks(town, state, comings)}
                break
            model, state = later, found
        return kinds

    def test_random_runs(self):
        rng, counts = random.Random(56), {}
        for town in random_towns(57, 500, calm=0.7):
            for kind in self.check_run(rng, town, 40):
                counts[kind] = counts.get(kind, 0) + 1
        self.assertEqual(sorted(counts), ["full", "late", "near"])
        self.assertGreater(min(counts.values()), 30)

    def test_long_runs(self):
        rng = random.Random(58)
        for town in random_towns(59, 60, calm=1.0, most_streams=2, streets=3):
            self.check_run(rng, town, 150)


class AfterTest(Case):
    """The steps of point [56] one by one."""

    def test_the_small_town(self):
        town = town_of(SMALL)
        self.assertEqual(after(town, first_state(town), (1, 1)),
                         (1, ((0, 0),), (0, 1), (0, 0), (-1, -1), (0, 1), (1, 0), ()))

    def test_a_vehicle_leaves_in_the_beat_in_which_it_comes(self):
        town = town_of(["round 3", "site 0", "stream a road 0 rate 1 1/1", "main 3 0 : a"])
        state = first_state(town)
        self.assertEqual((leaving(town, state, (1,)), leaving(town, state, (0,))), ((1,), (0,)))
        self.assertEqual(after(town, state, (1,))[3], (0,))

    def test_streets(self):
        town = town_of(["round 3", "site 0", "stream a road 2 rate 1 1/3", "main 3 0 : a", "site 1", "stream b road 2",
                        "stream c road 0", "main 1 0 :", "phase 1 1 0 : b", "street 0 a 1 b 3", "street 1 b 1 c 1"])
        states = states_along(town, (1, 0, 0), (0, 0, 0), (0, 0, 0), (0, 0, 0))
        self.assertEqual([state[7] for state in states],
                         [((0, 0, 1), (0,)), ((0, 1, 0), (0,)), ((1, 0, 0), (0,)), ((0, 0, 0), (0,))])
        self.assertEqual([state[3] for state in states], [(0, 0, 0)] * 3 + [(0, 1, 0)])
        # The phase of b is green in the beat 0 of its site, which is the beat 1 of the town, and the beat 4, too.
        self.assertEqual(leaving(town, states[3], (0, 0, 0)), (0, 1, 0))
        self.assertEqual(after(town, states[3], (0, 0, 0))[7], ((0, 0, 0), (1,)))
        self.assertEqual(breaks(town, after(town, states[3], (0, 0, 0)), (1, 0, 0)), [("full", 2)])

    def test_a_street_back_to_its_own_lane(self):
        town = town_of(["round 2", "site 0", "stream a road 2", "stream b road 2 rate 1 1/1", "main 2 0 : a b",
                        "street 0 b 0 a 1"])
        states = states_along(town, (0, 1), (0, 0))
        self.assertEqual([state[7] for state in states], [((1,),), ((0,),)])
        ring = town_of(["round 2", "site 0", "stream a road 2", "main 2 0 : a", "street 0 a 0 a 1"])
        state = (0, ((0, 0),), (0,), (0,), (-1,), (0,), (0,), ((1,),))
        self.assertEqual(after(ring, state, (0,)), (1, *state[1:]))
        self.assertEqual(leaving(ring, state, (0,)), (1,))

    def test_calls(self):
        town = town_of(["round 4", "site 0", "stream a foot 6", "main 1 0 :", "phase 1 1 0 : a ? a"])
        # The first beat is the beat 0: the main phase, as nothing was waiting before it.
        states = states_along(town, (0,), (1,), (0,), (1,), (1,), (0,))
        self.assertEqual([state[5] for state in states], [(0,), (1,), (2,), (3,), (0,), (0,)])
        self.assertEqual([state[1] for state in states], [((0, 0),)] * 3 + [((1, 0),)] + [((0, 0),)] * 2)

    def test_a_bus(self):
        town = town_of(["round 6", "site 0", "stream a road 3 rate 2 1/2 bus 4", "main 1 0 :", "phase 2 2 0 : a",
                        "phase 3 3 0 :"]).at([3])
        # Site beats 3, 4 and 5 are red, 0 and 1 green.
        states = states_along(town, (1,), (2,), (1,), (0,), (0,), (0,))
        self.assertEqual([state[3][0] for state in states], [1, 2, 3, 2, 1, 1])
        self.assertEqual([state[4][0] for state in states], [-1, 1, 1, 0, -1, -1])
        self.assertEqual([state[5][0] for state in states], [0, 1, 2, 3, 4, 0])

    def test_a_bus_with_nobody_before_it(self):
        town = town_of(["round 3", "site 0", "stream a road 1 rate 1 1/1 bus 2", "main 3 0 : a"])
        states = states_along(town, (2,), (1,), (1,), (2,), (0,), (0,))
        self.assertEqual([(state[3][0], state[4][0], state[5][0]) for state in states],
                         [(0, -1, 1), (0, -1, 2), (0, -1, 0), (0, -1, 1), (0, -1, 2), (0, -1, 0)])

    def test_the_age_of_a_bus_that_left_late(self):
        town = town_of(["round 4", "site 0", "stream a road 2 rate 1 1/1 bus 3", "main 1 0 :", "phase 2 2 0 :",
                        "phase 1 1 0 : a"])
        self.assertEqual([states_along(town, *[(0,)] * k)[-1][1] for k in (1, 2, 3)], [((1, 1),), ((2, 0),), ((0, 0),)])
        states = states_along(town, (2,), (0,), (0,), (0,))
        self.assertEqual([(state[4][0], state[5][0]) for state in states], [(0, 1), (0, 2), (-1, 3), (-1, 0)])

    def test_lights_look_at_what_came_what_waits_and_the_bus(self):
        town = town_of(["round 6", "site 0", "stream a road 2 rate 1 1/1 bus 6", "stream b road 1", "stream c foot 9",
                        "main 1 0 : b", "phase 1 2 0 : + b c", "phase 1 1 0 : a c ? c", "phase 1 1 0 : *",
                        "site 0", "stream d road 3 rate 1 1/2", "main 6 0 : d", "street 1 d 0 b 1"])
        none = (0, 0, 0, 0)

        def lights(*row):
            """The lights of site 0 after five beats and a row that begins in the last beat of a round."""
            return states_along(town, *[none] * 5, *row)[-1][1][0]

        self.assertEqual([lights(none), lights(none, none), lights(none, none, none)], [(1, 0), (3, 0), (0, 0)])
        # A vehicle that comes from a street holds the phase, a call on one of its holds does not.
        self.assertEqual(lights((0, 0, 0, 1), none), (1, 1))
        self.assertEqual(lights(none, (0, 0, 1, 0)), (2, 0))
        # The bus wants the phase that is green for it, and bars the last one as long as it waits.
        self.assertEqual(lights(none, (2, 0, 0, 0)), (2, 0))
        self.assertEqual(lights(none, (2, 0, 0, 0), none), (3, 0))
        self.assertEqual(lights((1, 0, 0, 0), (2, 0, 0, 0), none), (0, 0))
        self.assertEqual(lights((1, 0, 0, 0), (1, 0, 0, 0)), (3, 0))

    def test_nothing_that_is_passed_changes(self):
        town = town_of(MIXED)
        state, comings = first_state(town), (1, 0, 1, 0, 2)
        first = after(town, state, comings)
        self.assertEqual((state, comings, town), (first_state(town), (1, 0, 1, 0, 2), town_of(MIXED)))
        self.assertEqual(after(town, state, comings), first)


class BreaksTest(Case):
    """Point [57]."""

    def test_full(self):
        town = town_of(["round 4", "site 0", "stream a road 1 rate 3 1/1", "main 4 0 :"])
        state = after(town, first_state(town), (1,))
        self.assertEqual(breaks(town, first_state(town), (1,)), [])
        self.assertEqual((breaks(town, state, (0,)), breaks(town, state, (1,))), ([], [("full", 0)]))
        self.assert_fails(Broken, {"place": 0, "breaks": (("full", 0),)}, after, town, state, (1,))

    def test_late_calls(self):
        town = town_of(["round 5", "site 0", "stream a foot 2", "main 4 0 :", "phase 1 1 0 : a"])
        states = states_along(town, (1,), (0,), (1,), (0,))
        self.assertEqual([state[5][0] for state in states], [0, 0, 1, 2])
        # In the last beat of the round a call of two beats waits; the next beat is green.
        self.assertEqual(breaks(town, states[-1], (0,)), [("late", 0)])
        self.assertEqual(breaks(town, states[1], (0,)), [])
        self.assertEqual(after(town, states_along(town, (0,), (0,), (0,), (1,))[-1], (1,))[5], (2,))
        self.assertEqual(states_along(town, *[(0,)] * 4, (1,), (1,))[-1][5], (0,))

    def test_late_buses(self):
        town = town_of(["round 4", "site 0", "stream a road 2 rate 1 1/1 bus 1", "main 1 0 : a", "phase 3 3 0 :"])
        # The lane is green in the last beat of each round.
        states = states_along(town, (0,), (0,), (2,), (0,))
        self.assertEqual([state[5][0] for state in states], [0, 0, 1, 0])
        self.assertEqual(breaks(town, states[2], (1,)), [])
        states = states_along(town, (1,), (0,), (2,))
        self.assertEqual((states[-1][4], breaks(town, states[-1], (0,))), ((1,), [("late", 0)]))
        states = states_along(town, (0,), (2,))
        self.assertEqual((states[-1][4], breaks(town, states[-1], (1,))), ((0,), [("late", 0)]))

    def test_full_and_late(self):
        town = town_of(["round 4", "site 0", "stream a road 1 rate 2 1/1 bus 1", "main 4 0 :"])
        state = after(town, first_state(town), (2,))
        self.assertEqual(breaks(town, state, (1,)), [("full", 0), ("late", 0)])
        self.assert_fails(Broken, {"place": 0, "breaks": (("full", 0), ("late", 0))}, after, town, state, (1,))

    def near_town(self, forth, back, pause):
        return town_of(["round 6", "site 0", "stream z road 1", "main 6 0 :", "site 0", "stream a road 1",
                        "stream b foot 9", f"rival a b {forth} {back}", "main 1 0 : a", f"phase 1 1 {pause} : b"])

    def test_near(self):
        # The phase is green in the beat 0, right behind the main phase; the main phase is green 1 + pause beats later.
        for forth, back, pause, wanted in ((0, 2, 2, []), (1, 0, 0, [("near", 1, 2)]), (0, 0, 0, []),
                                           (9, 9, 0, [("near", 1, 2)])):
            town = self.near_town(forth, back, pause)
            self.assertEqual(breaks(town, first_state(town), (0, 0, 0)), wanted)
        for back, pause, wanted in ((3, 2, [("near", 2, 1)]), (2, 2, []), (1, 0, [("near", 2, 1)]), (0, 0, []),
                                    (4, 4, []), (5, 4, [("near", 2, 1)])):
            town = self.near_town(0, back, pause)
            state = states_along(town, *[(0, 0, 0)] * (1 + pause))[-1]
            self.assertEqual(breaks(town, state, (0, 0, 1)), wanted)

    def test_rivals_that_are_green_together(self):
        town = town_of(["round 2", "site 0", "stream a road 0 rate 1 1/1", "stream b road 1", "stream c road 1",
                        "rival b a 0 0", "rival c b 3 0", "main 1 0 :", "phase 1 1 0 : a b"])
        self.assertEqual(breaks(town, first_state(town), (1, 0, 0)), [("near", 0, 1), ("near", 1, 0)])
        town = town.at([1])
        self.assertEqual(breaks(town, first_state(town), (1, 0, 0)), [("full", 0)])

    def test_breaks_of_several_sites_ascend(self):
        site = ["site 0", "stream a road 0 rate 1 1/1", "stream b foot 1", "stream c road 1", "rival a c 0 0"]
        town = town_of(["round 2", *[*site, "main 2 0 : c"] * 2, "site 0", "stream d road 1", "stream e road 1",
                        "rival d e 0 0", "main 2 0 : e d"])
        states = (0, ((0, 0),) * 3, (0,) * 8, (0,) * 8, (-1,) * 8, (0, 1, 0, 0, 1, 0, 0, 0),
                  (1, 0, 0, 1, 0, 0, 0, 0), ())
        self.assertEqual(breaks(town, states, (1, 0, 0, 1, 1, 0, 0, 0)),
                         [("full", 0), ("full", 3), ("late", 1), ("late", 4), ("near", 6, 7), ("near", 7, 6)])

    def test_each_list_is_new(self):
        town = town_of(["round 4", "site 0", "stream a road 0 rate 3 1/1", "main 4 0 :"])
        breaks(town, first_state(town), (1,)).clear()
        self.assertEqual(breaks(town, first_state(town), (1,)), [("full", 0)])


class NotComingTest(Case):
    """What cannot come."""

    def assert_not_coming(self, town, state, comings):
        for call in (after, breaks, leaving):
            self.assert_fails(NotComing, {"place": 0}, call, town, state, comings)

    def test_wrong_comings(self):
        town = town_of(MIXED)
        state = first_state(town)
        for comings in ((), (0,) * 4, (0,) * 6, (2, 0, 0, 0, 0), (0, 1, 0, 0, 0), (0, 0, 2, 0, 0), (0, 0, 0, 1, 0),
                        (0, 0, 0, 0, 3), (-1, 0, 0, 0, 0), (0, 0, 0, 0, 10 ** 9)):
            self.assert_not_coming(town, state, comings)
        state = after(town, state, (0, 0, 0, 0, 2))
        self.assert_not_coming(town, state, (0, 0, 0, 0, 2))
        state = after(town, after(town, state, (0, 0, 0, 0, 1)), (0, 0, 0, 0, 0))
        self.assertEqual(town.lane(4).rate, Rate(1, 2, 3))

    def test_no_credit(self):
        town = town_of(SMALL)
        self.assert_not_coming(town, after(town, first_state(town), (1, 0)), (1, 0))

    def test_not_coming_goes_before_broken(self):
        town = town_of(["round 2", "site 0", "stream a road 1", "stream b road 1", "rival a b 0 0", "main 2 0 : a b"])
        state = first_state(town)
        self.assert_not_coming(town, state, (1, 0))
        self.assert_fails(Broken, {"place": 0, "breaks": (("near", 0, 1), ("near", 1, 0))}, after, town, state, (0, 0))
        self.assertEqual((breaks(town, state, (0, 0)), leaving(town, state, (0, 0))),
                         ([("near", 0, 1), ("near", 1, 0)], (0, 0)))

    def test_all_other_tuples_cannot_come(self):
        for town in random_towns(60, 60, most_sites=2, most_streams=2):
            state = first_state(town)
            known = comings_list(town, state)
            for comings in [(*known[-1][:-1], value) for value in range(-1, 4)]:
                if comings in known:
                    self.assertEqual(len(leaving(town, state, comings)), len(town))
                else:
                    self.assert_not_coming(town, state, comings)


class SumsTest(Case):
    """Vehicles are neither made nor lost: the third fact of point [64]."""

    def test_sums(self):
        rng = random.Random(64)
        for town in random_towns(61, 150, calm=0.9, streets=3):
            state, came, left = first_state(town), [0] * len(town), [0] * len(town)
            for _ in range(30):
                comings = rng.choice(comings_list(town, state))
                if breaks(town, state, comings):
                    break
                gone, roads = leaving(town, state, comings), state[7]
                for number in range(len(town)):
                    came[number] += 0 if town.lane(number).foot else min(comings[number], 1)
                    left[number] += gone[number]
                for street, road in zip(town.streets, roads):
                    came[town.lane_number(*street.end)] += road[0]
                state = after(town, state, comings)
                self.assertEqual(state[3], tuple(a - b for a, b in zip(came, left)))
                for street, road in zip(town.streets, state[7]):
                    start, end = town.lane_number(*street.start), town.lane_number(*street.end)
                    self.assertEqual(left[start], came[end] + sum(road))

"""States: points [53] to [55]."""

from crossinglights.errors import LightsError
from crossinglights.states import comings_list, first_state, green_lanes
from crossinglights.stepping import after
from tests.support import Case
from tests.townmodel import MIXED, SMALL, Model, random_towns, town_of

def kinds(value):
    """The kinds of a value and of all that it holds."""
    return [type(value), *[kinds(entry) for entry in value]] if isinstance(value, (tuple, list)) else type(value)


class FirstStateTest(Case):
    """Points [53] and [54]."""

    def test_the_small_town(self):
        self.assertEqual(first_state(town_of(SMALL)),
                         (0, ((0, 0),), (0, 1), (0, 0), (-1, -1), (0, 0), (2, 0), ()))

    def test_the_mixed_town(self):
        # Site 0 begins in its beat 4: the main phase, green in the beats 3 and 4; the side phase is green in 1.
        # Site 1 begins in its beat 2: the main phase from the beat 1 on; the side phase is green in 0.
        self.assertEqual(first_state(town_of(MIXED)),
                         (0, ((0, 0), (0, 0)), (0, 1, 4, 0, 0), (0,) * 5, (-1,) * 5, (0,) * 5, (6, 0, 0, 0, 4),
                          ((0, 0, 0),)))

    def test_a_first_beat_within_a_pause(self):
        town = town_of(MIXED).at([0, 0])
        self.assertEqual(first_state(town)[1:3], (((0, -1), (1, 0)), (0, 1, 4, 0, 0)))
        self.assertEqual(first_state(town.at([4, 2]))[1:3], (((1, 0), (0, 0)), (1, 1, 4, 0, 0)))
        self.assertEqual(first_state(town.at([3, 3]))[1:3], (((1, -1), (0, 0)), (1, 0, 4, 0, 0)))

    def test_since_is_at_most_the_longest_span(self):
        lines = ["round 8", "site 0", "stream a road 1", "stream b road 1", "stream c road 1", "rival a b 3 0",
                 "rival a c 1 2", "main 4 0 : b", "phase 2 2 0 : a"]
        sinces = [first_state(town_of(lines).at([-beat % 8]))[2] for beat in range(8)]
        self.assertEqual([since[0] for since in sinces], [3, 0, 0, 1, 2, 3, 3, 3])
        self.assertEqual([since[1] for since in sinces], [0] * 8)
        self.assertEqual([since[2] for since in sinces], [2] * 8)

    def test_spans_longer_than_the_round(self):
        lines = ["round 3", "site 0", "stream a road 1", "stream b road 1", "rival a b 9 0", "main 1 0 : a",
                 "phase 2 2 0 : b"]
        sinces = [first_state(town_of(lines).at([-beat % 3]))[2] for beat in range(3)]
        self.assertEqual(sinces, [(0, 0), (1, 0), (2, 0)])
        never = [*lines[:-2], "main 1 0 : b"]
        self.assertEqual(first_state(town_of(never))[2], (9, 0))

    def test_random_towns(self):
        for town in random_towns(53, 300):
            state = first_state(town)
            self.assertEqual(state, Model(town).state())
            self.assertEqual(state[0], 0)

    def test_a_state_consists_of_tuples_and_integers(self):
        state = first_state(town_of(MIXED))
        self.assertEqual(kinds(state), [tuple, int, [tuple, [tuple, int, int], [tuple, int, int]],
                                        *[[tuple] + [int] * 5] * 5, [tuple, [tuple, int, int, int]]])
        self.assertEqual(kinds(after(town_of(MIXED), state, (1, 0, 1, 0, 2))), kinds(state))


class ComingsTest(Case):
    """Point [55]."""

    def test_the_small_town(self):
        town = town_of(SMALL)
        self.assertEqual(comings_list(town, first_state(town)), [(0, 0), (0, 1), (1, 0), (1, 1)])

    def test_credit(self):
        town = town_of(SMALL)
        state = after(town, first_state(town), (1, 1))
        self.assertEqual((state[6], comings_list(town, state)), ((1, 0), [(0, 0), (0, 1)]))
        state = after(town, state, (0, 1))
        self.assertEqual((state[6], len(comings_list(town, state))), ((2, 0), 4))

    def test_buses(self):
        town = town_of(MIXED)
        state = first_state(town)
        wanted = [(a, 0, c, 0, b) for a in (0, 1) for c in (0, 1) for b in (0, 1, 2)]
        self.assertEqual(comings_list(town, state), wanted)
        # The credit is enough for one more vehicle, but not for a bus as long as the age is not 0.
        state = after(town, state, (0, 0, 0, 0, 2))
        self.assertEqual((state[5][4], state[6][4], comings_list(town, state)[:2]), (1, 3, [(0,) * 5, (0, 0, 0, 0, 1)]))
        self.assertEqual(len(comings_list(town, state)), 8)
        ages = []
        for _ in range(5):
            ages.append((state[5][4], (0, 0, 0, 0, 2) in comings_list(town, state)))
            state = after(town, state, (0,) * 5)
        self.assertEqual(ages, [(1, False), (2, False), (3, False), (4, False), (0, True)])

    def test_a_bus_needs_credit(self):
        lines = ["round 4", "site 0", "stream a road 3 rate 1 1/6 bus 1", "main 1 0 : a"]
        town = town_of(lines)
        state = after(town, after(town, first_state(town), (2,)), (0,))
        self.assertEqual((state[5], state[6], comings_list(town, state)), ((0,), (2,), [(0,)]))

    def test_random_towns(self):
        for town in random_towns(55, 300):
            model = Model(town)
            self.assertEqual(comings_list(town, model.state()), model.comings())

    def test_each_list_is_new(self):
        town = town_of(SMALL)
        state = first_state(town)
        comings_list(town, state).clear()
        self.assertEqual(len(comings_list(town, state)), 4)
        self.assertEqual((town, state), (town_of(SMALL), first_state(town)))


class GreenLanesTest(Case):
    """green_lanes of point [55]."""

    def test_green_lanes_in_a_quiet_round(self):
        town, found = town_of(MIXED), []
        state = first_state(town)
        for _ in range(5):
            found.append(green_lanes(town, state))
            state = after(town, state, (0,) * 5)
        # Site 0 is in its beats 4, 0, 1, 2, 3 (main, pause, side, pause, main), site 1 in 2, 3, 4, 0, 1.
        self.assertEqual(found, [(0, 4), (4,), (1, 4), (3,), (0, 4)])
        self.assertEqual(state, first_state(town))

    def test_random_towns(self):
        for town in random_towns(56, 300):
            model = Model(town)
            self.assertEqual(green_lanes(town, model.state()), tuple(sorted(model.green())))

    def test_many_lanes(self):
        lines = ["round 2"] + ["site 0", *[f"stream {name} road 1" for name in "abcdef"], "main 1 0 : f b a"] * 4
        town = town_of(lines)
        self.assertEqual(green_lanes(town, first_state(town)), (0, 1, 5, 6, 7, 11, 12, 13, 17, 18, 19, 23))
        self.assertEqual(comings_list(town, first_state(town)), [(0,) * 24])
        try:
            after(town, first_state(town), (0,) * 24)
        except LightsError:
            self.fail()

"""Rows of comings: point [58]."""

import random

from crossinglights.errors import Broken, NotComing
from crossinglights.playing import play
from crossinglights.states import comings_list, first_state
from crossinglights.stepping import after, breaks
from tests.support import Case
from tests.townmodel import MIXED, SMALL, random_towns, town_of


class PlayTest(Case):
    def test_the_empty_row(self):
        town = town_of(MIXED)
        self.assertEqual(play(town, []), [first_state(town)])
        self.assertEqual(play(town, ()), [first_state(town)])

    def test_states_follow_one_another(self):
        rng = random.Random(58)
        for town in random_towns(581, 80, calm=1.0):
            states, row = [first_state(town)], []
            for _ in range(12):
                comings = rng.choice(comings_list(town, states[-1]))
                if not breaks(town, states[-1], comings):
                    row.append(comings)
                    states.append(after(town, states[-1], comings))
            kept = list(row)
            self.assertEqual(play(town, row), states)
            self.assertEqual(play(town, tuple(row)), states)
            self.assertEqual(row, kept)

    def test_the_first_comings_that_cannot_come(self):
        town = town_of(SMALL)
        for row, place in (([(1, 1), (1, 0)], 1), ([(2, 0)], 0), ([(0, 0), (0, 0), (0, 0, 0), ()], 2), ([()], 0)):
            self.assert_fails(NotComing, {"place": place}, play, town, row)

    def test_the_first_comings_that_break_something(self):
        town = town_of(["round 4", "site 0", "stream a road 1 rate 3 1/1", "main 4 0 :"])
        full = (("full", 0),)
        self.assert_fails(Broken, {"place": 1, "breaks": full}, play, town, [(1,), (1,), (2,)])
        self.assert_fails(Broken, {"place": 3, "breaks": full}, play, town, [(0,), (1,), (0,), (1,)])
        self.assert_fails(NotComing, {"place": 1}, play, town, [(1,), (2,), (1,)])
        self.assertEqual(len(play(town, [(1,), (0,), (0,)])), 4)

    def test_each_list_is_new(self):
        town = town_of(SMALL)
        play(town, [(1, 1)]).clear()
        self.assertEqual(len(play(town, [(1, 1)])), 2)

"""The net of the plans of a crossing: point [17]."""

import itertools
import random

from crossinglights.beats import Beats
from crossinglights.errors import BadPlan
from crossinglights.netrings import broken
from crossinglights.nets import Net
from crossinglights.plannets import plan_net
from crossinglights.plans import Plan
from tests.support import Case, crossing_of, full_crossing, random_crossing


def is_plan(crossing, length, begins, greens):
    """Return True if these begins and greens are a plan."""
    try:
        Plan(crossing, length, begins, greens)
    except BadPlan:
        return False
    return True


class PlanNetTest(Case):
    def test_ties(self):
        crossing = crossing_of(4, (2, 0, 1, 3), (1, 2, 0, 0))
        net = plan_net(crossing, 12, [2, 3, 4, 12])
        wanted = Net(12, 4, [(2, 0, Beats(12, [5, 6, 7])), (1, 2, Beats(12, [3, 4, 5, 6, 7, 8]))])
        self.assertEqual(net, wanted)

    def test_ties_without_beats(self):
        crossing = crossing_of(2, (0, 1, 9, 9))
        self.assertEqual(plan_net(crossing, 19, (1, 1)).ties, ((0, 1, Beats.none(19)),))
        self.assertEqual(plan_net(crossing, 20, (1, 1)).ties, ((0, 1, Beats(20, [10])),))
        self.assertEqual(plan_net(crossing, 1, (1, 1)).ties, ((0, 1, Beats.none(1)),))

    def test_numbers_of_streams(self):
        self.assertEqual(plan_net(crossing_of(1), 60, [60]), Net(60, 1, []))
        net = plan_net(full_crossing(6, 5), 60, [1] * 6)
        self.assertEqual((net.nodes, len(net.ties)), (6, 15))

    def test_settings_that_keep_it_are_the_begins_of_plans(self):
        rng = random.Random(17)
        good = 0
        for _ in range(60):
            crossing = random_crossing(rng, rng.randint(1, 3), 2)
            length = rng.randint(1, 8)
            greens = [rng.randint(1, max(1, length // 2)) for _ in crossing.streams]
            net = plan_net(crossing, length, greens)
            for begins in itertools.product(range(length), repeat=len(crossing)):
                plan = is_plan(crossing, length, begins, greens)
                self.assertIs(broken(net, begins) == [], plan)
                good += plan
        self.assertGreater(good, 100)

    def test_wrong_lengths_and_greens(self):
        crossing = crossing_of(2, (0, 1, 1, 1))
        for length in (0, -1, 61):
            self.assert_fails(BadPlan, {"part": "length", "place": 0}, plan_net, crossing, length, [0])
        for greens, place in (([], 0), ([1], 1), ([1, 1, 1], 2), ([0, 1], 0), ([1, 9], 1), ([8, -1], 1), ([9, 9], 0)):
            self.assert_fails(BadPlan, {"part": "greens", "place": place}, plan_net, crossing, 8, greens)
        self.assertEqual(plan_net(crossing, 8, [8, 8]).length, 8)

"""One queue: points [33] and [38]."""

import itertools
import random

from crossinglights.beats import Beats
from crossinglights.errors import BadNumber, BadRow
from crossinglights.queues import run_queue
from tests.support import Case, all_beats, random_beats, simulated


class RunTest(Case):
    """Point [33]."""

    def test_short_rows(self):
        for green in all_beats(3):
            for row in itertools.product((0, 1, 2), repeat=4):
                for begin in range(3):
                    for start in (0, 1, 3):
                        self.assertEqual(run_queue(green, begin, row, start), simulated(green, begin, row, start))

    def test_vehicles_come_before_one_leaves(self):
        self.assertEqual(run_queue(Beats(1, [0]), 0, [1, 1, 0]), [(0, 1), (0, 1), (0, 0)])
        self.assertEqual(run_queue(Beats(1, []), 0, [1, 1, 0]), [(1, 0), (2, 0), (2, 0)])
        self.assertEqual(run_queue(Beats(1, [0]), 0, [5, 0, 0]), [(4, 1), (3, 1), (2, 1)])

    def test_begins_far_away(self):
        green = Beats(7, [1, 2, 6])
        row = [1, 0, 2, 1, 0, 0, 1, 1, 0, 0, 0]
        for begin in (-10 ** 9, -8, -1, 0, 6, 7, 15, 10 ** 9):
            self.assertEqual(run_queue(green, begin, row), simulated(green, begin % 7, row))

    def test_starts(self):
        green = Beats(2, [0])
        self.assertEqual(run_queue(green, 0, [0, 0, 0], 2), [(1, 1), (1, 0), (0, 1)])
        self.assertEqual(run_queue(green, 0, [0, 0, 0], start=1), [(0, 1), (0, 0), (0, 0)])
        self.assertEqual(run_queue(green, 1, [10 ** 9], 10 ** 9), [(2 * 10 ** 9, 0)])

    def test_edges(self):
        self.assertEqual(run_queue(Beats(4, [0]), 3, []), [])
        self.assertEqual(run_queue(Beats(4, [0]), 3, (), 5), [])
        self.assertEqual(run_queue(Beats(60, [59]), -1, (1, 1)), [(0, 1), (1, 0)])

    def test_wrong_numbers(self):
        green = Beats(4, [0])
        for start in (-1, -10 ** 9):
            self.assert_fails(BadNumber, {"number": start}, run_queue, green, 0, [-1], start)
        for row, place in (([-1], 0), ([0, 1, -1, -2], 2), ((5, 0, -10 ** 9), 2)):
            self.assert_fails(BadRow, {"place": place}, run_queue, green, 0, row, 0)
            self.assert_fails(BadRow, {"place": place}, run_queue, green, 0, row)

    def test_what_was_passed_stays(self):
        row = [1, 0, 1]
        green = Beats(2, [0])
        found = run_queue(green, 1, row, 1)
        self.assertEqual((row, list(green), type(found), type(found[0])), ([1, 0, 1], [0], list, tuple))
        found.append(None)
        self.assertEqual(len(run_queue(green, 1, row, 1)), 3)

    def test_example_of_the_interface(self):
        found = run_queue(Beats(4, [0, 1]), 2, [1, 0, 1, 0, 0])
        self.assertEqual(found, [(1, 0), (1, 0), (1, 1), (0, 1), (0, 0)])


class FactsTest(Case):
    """Point [38]."""

    def test_no_vehicle_is_lost(self):
        rng = random.Random(38)
        for _ in range(200):
            green = random_beats(rng, rng.randint(1, 9))
            row = [rng.choice((0, 0, 1, 2)) for _ in range(20)]
            start = rng.randint(0, 3)
            told = run_queue(green, rng.randint(-20, 20), row, start)
            for place, (queue, _) in enumerate(told):
                self.assertEqual(start + sum(row[:place + 1]), queue + sum(left for _, left in told[:place + 1]))

    def test_more_vehicles_make_no_queue_shorter(self):
        rng = random.Random(39)
        for _ in range(200):
            green = random_beats(rng, rng.randint(1, 9))
            begin = rng.randint(0, 8)
            fewer = [rng.choice((0, 0, 1)) for _ in range(20)]
            more = [came + rng.choice((0, 0, 0, 1)) for came in fewer]
            start = rng.randint(0, 2)
            less = run_queue(green, begin, fewer, start)
            greater = run_queue(green, begin, more, start + rng.randint(0, 1))
            for place in range(20):
                self.assertLessEqual(less[place][0], greater[place][0])
                self.assertLessEqual(sum(left for _, left in less[:place + 1]),
                                     sum(left for _, left in greater[:place + 1]))

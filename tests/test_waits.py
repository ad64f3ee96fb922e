"""The longest wait: point [36]."""

from crossinglights.beats import Beats
from crossinglights.errors import BadBeats
from crossinglights.rates import Rate
from crossinglights.waits import longest_wait
from tests.support import ALL_RATES, Case, all_beats, grows, is_let, some_flows
from tests.test_depths import queue_states


def wait_of_last(green, begin, row):
    """The number of beats that the last vehicle of a row of 0 and 1 waits if nothing comes after it."""
    leaving = -1
    for place, came in enumerate(row):
        if came:
            leaving = max(place, leaving + 1)
            while (begin + leaving) % green.length not in list(green):
                leaving += 1
            wait = leaving - place
    return wait


def wanted_wait(rate, green):
    """The greatest wait behind any queue that a run can have."""
    waits = []
    for beat, credit, queue in queue_states(rate, green):
        if credit >= rate.den:
            beats = -1
            for _ in range(queue + 1):
                beats += 1
                while (beat + beats) % green.length not in list(green):
                    beats += 1
            waits.append(beats)
    return max(waits)


class WaitTest(Case):
    def check_wait(self, rate, green):
        if grows(rate, green):
            self.assertIsNone(longest_wait(rate, green))
            return
        beats, begin, row = longest_wait(rate, green)
        self.assertEqual(beats, wanted_wait(rate, green))
        self.assertIn(begin, range(green.length))
        self.assertIs(type(row), list)
        self.assertTrue(is_let(rate, row))
        self.assertEqual(row[-1], 1)
        self.assertEqual(wait_of_last(green, begin, row), beats)

    def test_all_rates_and_short_rounds(self):
        for rate in ALL_RATES:
            for length in range(1, 4):
                for green in all_beats(length):
                    self.check_wait(rate, green)

    def test_long_rounds(self):
        for rate, green in some_flows(38, 120, (5, 7, 11, 12)):
            self.check_wait(rate, green)

    def test_edges(self):
        beats, _, row = longest_wait(Rate(1, 1, 1), Beats.every(1))
        self.assertEqual((beats, row[-1]), (0, 1))
        self.assertEqual(longest_wait(Rate(1, 1, 6), Beats(6, [3]))[0], 5)
        self.assertEqual(longest_wait(Rate(3, 1, 6), Beats(6, [3]))[0], wanted_wait(Rate(3, 1, 6), Beats(6, [3])))
        self.assertIsNone(longest_wait(Rate(1, 1, 6), Beats.none(12)))
        self.assertEqual(longest_wait(Rate(1, 1, 6), Beats(12, [0, 11]))[0], 10)

    def test_rounds_that_are_too_long(self):
        for green in (Beats.every(13), Beats.none(60)):
            self.assert_fails(BadBeats, {}, longest_wait, Rate(1, 1, 1), green)

    def test_each_answer_is_new(self):
        longest_wait(Rate(2, 1, 3), Beats(3, [0]))[2].append(7)
        self.assertNotIn(7, longest_wait(Rate(2, 1, 3), Beats(3, [0]))[2])

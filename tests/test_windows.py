"""The widest stretch of a rate and its greens: point [35]."""

from crossinglights.beats import Beats
from crossinglights.depths import Depth, depth
from crossinglights.errors import BadBeats
from crossinglights.rates import Rate
from crossinglights.windows import widest
from tests.support import ALL_RATES, Case, all_beats, grows, some_flows


def wanted_widest(rate, green, most=150):
    """The greatest difference over all stretches of up to so many beats."""
    best = (0, 0, 0)
    for beats in range(1, most):
        coming = min(beats, rate.burst - 1 - (-rate.num * beats // rate.den))
        for begin in range(green.length):
            number = coming - sum((begin + k) % green.length in list(green) for k in range(beats))
            if number > best[0]:
                best = (number, begin, beats)
    return best


class WidestTest(Case):
    def test_all_rates_and_short_rounds(self):
        for rate in ALL_RATES[::3]:
            for length in range(1, 4):
                for green in all_beats(length):
                    wanted = None if grows(rate, green) else wanted_widest(rate, green)
                    self.assertEqual(widest(rate, green), wanted)

    def test_long_rounds(self):
        for rate, green in some_flows(36, 25, (5, 8, 12)):
            if not grows(rate, green):
                self.assertEqual(widest(rate, green), wanted_widest(rate, green))

    def test_edges(self):
        self.assertEqual(widest(Rate(1, 1, 1), Beats.every(12)), (0, 0, 0))
        self.assertEqual(widest(Rate(3, 1, 1), Beats.every(1)), (0, 0, 0))
        self.assertIsNone(widest(Rate(1, 1, 6), Beats.none(12)))
        self.assertEqual(widest(Rate(1, 1, 6), Beats(6, [5])), (1, 0, 1))
        self.assertEqual(widest(Rate(1, 1, 6), Beats(6, [0])), (1, 1, 1))

    def test_rounds_that_are_too_long(self):
        for green in (Beats.every(13), Beats.none(13), Beats(60, [0])):
            self.assert_fails(BadBeats, {}, widest, Rate(1, 1, 1), green)

    def test_it_is_the_depth(self):
        kinds = set()
        for rate, green in some_flows(37, 400, (2, 3, 5, 7, 12)):
            found, course = widest(rate, green), depth(rate, green)
            kinds.add(type(course))
            self.assertIs(type(course) is Depth, rate.num * green.length <= len(green) * rate.den)
            self.assertEqual(found[0] if found else None, course.number if type(course) is Depth else None)
        self.assertEqual(len(kinds), 2)

    def test_examples_of_the_interface(self):
        green = Beats(4, [0, 1])
        found = [widest(rate, green) for rate in (Rate(1, 1, 2), Rate(2, 1, 2), Rate(1, 2, 3))]
        self.assertEqual(found, [(1, 2, 1), (2, 2, 2), None])

"""Rates: points [30] to [32]."""

import itertools

from crossinglights.errors import BadCredit, BadNumber, BadRate, NoCredit
from crossinglights.rates import Rate
from tests.support import ALL_RATES, Case, is_let


class MakingTest(Case):
    """Point [30]."""

    def test_attributes(self):
        rate = Rate(3, 5, 6)
        self.assertEqual((rate.burst, rate.num, rate.den, rate.full), (3, 5, 6, 22))
        self.assertEqual(Rate(1, 1, 1).full, 1)

    def test_wrong_parts(self):
        for args, part in (((0, 0, 0), "burst"), ((4, 1, 1), "burst"), ((1, 0, 0), "den"), ((3, 9, 7), "den"),
                           ((1, 1, -1), "den"), ((2, 0, 6), "num"), ((2, 7, 6), "num"), ((2, -1, 1), "num")):
            self.assert_fails(BadRate, {"part": part}, Rate, *args)

    def test_equality(self):
        self.assertEqual(Rate(2, 1, 3), Rate(2, 1, 3))
        for other in (Rate(1, 1, 3), Rate(2, 2, 3), Rate(2, 1, 4), Rate(2, 2, 6)):
            self.assertNotEqual(Rate(2, 1, 3), other)
        self.assertNotEqual(Rate(2, 1, 3), (2, 1, 3))


class CreditTest(Case):
    """Point [31]."""

    def test_after(self):
        for rate in ALL_RATES:
            for credit in range(rate.full + 1):
                self.assertEqual(rate.after(credit, 0), min(rate.full, credit + rate.num))
                if credit >= rate.den:
                    self.assertEqual(rate.after(credit, 1), min(rate.full, credit - rate.den + rate.num))
                else:
                    self.assert_fails(NoCredit, {"credit": credit}, rate.after, credit, 1)

    def test_wrong_credits(self):
        for rate in ALL_RATES:
            for credit in (-1, rate.full + 1, 10 ** 9):
                self.assert_fails(BadCredit, {"credit": credit}, rate.after, credit, 1)
                self.assert_fails(BadCredit, {"credit": credit}, rate.after, credit, 0)

    def test_lets(self):
        for rate in ALL_RATES:
            for row in itertools.product((0, 1), repeat=7):
                self.assertIs(rate.lets(row), is_let(rate, row))
            self.assertIs(rate.lets([]), True)


class GreatestTest(Case):
    """Point [32]."""

    def test_greatest(self):
        for rate in ALL_RATES:
            for beats in range(8):
                rows = [row for row in itertools.product((0, 1), repeat=beats) if is_let(rate, row)]
                self.assertEqual(rate.greatest(beats), max(sum(row) for row in rows))

    def test_greedy(self):
        for rate in ALL_RATES:
            row = rate.greedy(40)
            self.assertTrue(is_let(rate, row))
            for beats in range(41):
                self.assertEqual(rate.greedy(beats), row[:beats])
                self.assertEqual(sum(row[:beats]), rate.greatest(beats))
                if beats < 40 and row[beats] == 0:
                    self.assertFalse(is_let(rate, row[:beats] + [1]))

    def test_rows_that_are_let(self):
        for rate in ALL_RATES[::4]:
            for row in itertools.product((0, 1), repeat=8):
                few = [sum(row[b:e]) <= rate.burst - 1 + -(-rate.num * (e - b) // rate.den)
                       for b in range(8) for e in range(b + 1, 9)]
                self.assertIs(rate.lets(row), all(few))

    def test_wrong_numbers(self):
        rate = Rate(2, 1, 3)
        self.assertEqual(rate.greatest(10 ** 9), 333333335)
        self.assertEqual((rate.greatest(0), rate.greedy(0), len(rate.greedy(1000))), (0, [], 1000))
        for beats in (-1, -10 ** 9):
            self.assert_fails(BadNumber, {"number": beats}, rate.greatest, beats)
        for beats in (-1, 1001, 10 ** 9):
            self.assert_fails(BadNumber, {"number": beats}, rate.greedy, beats)


class ExampleTest(Case):
    def test_example_of_the_interface(self):
        rate = Rate(2, 1, 3)
        found = [rate.full, rate.after(6, 1), rate.greedy(7), rate.greatest(7), rate.lets([0, 1, 1, 1])]
        self.assertEqual(found, [6, 4, [1, 1, 0, 1, 0, 0, 1], 4, False])

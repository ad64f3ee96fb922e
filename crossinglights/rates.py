"""Rates: how many vehicles can come in how many beats."""

from crossinglights.errors import BadCredit, BadNumber, BadRate, NoCredit

MOST_BURST = 3
MOST_DEN = 6
MOST_GREEDY = 1000


class Rate:
    """Bursts of a few vehicles, and no more than num vehicles in den beats in the long run."""

    def __init__(self, burst, num, den):
        if not 1 <= burst <= MOST_BURST:
            raise BadRate("burst")
        if not 1 <= den <= MOST_DEN:
            raise BadRate("den")
        if not 1 <= num <= den:
            raise BadRate("num")
        self.burst = burst
        self.num = num
        self.den = den

    def __eq__(self, other):
        return (isinstance(other, Rate) and self.burst == other.burst and self.num == other.num
                and self.den == other.den)

    @property
    def full(self):
        """The greatest credit."""
        return self.burst * self.den + self.num - 1

    def after(self, credit, came):
        """Return the credit after a beat in which so many vehicles came, none or one."""
        if not 0 <= credit <= self.full:
            raise BadCredit(credit)
        if came == 1 and credit < self.den:
            raise NoCredit(credit)
        return min(self.full, credit - self.den * came + self.num)

    def lets(self, row):
        """Return True if the vehicles of the row can come, beginning with the full credit."""
        credit = self.full
        for came in row:
            if came == 1 and credit < self.den:
                return False
            credit = self.after(credit, came)
        return True

    def greatest(self, beats):
        """Return the greatest number of vehicles that can come in so many beats."""
        if beats < 0:
            raise BadNumber(beats)
        # Zero beats have no vehicles, although burst - 1 is more for the greater bursts.
        return min(beats, self.burst - 1 + (self.num * beats + self.den - 1) // self.den)

    def greedy(self, beats):
        """Return the row of so many beats in which a vehicle comes whenever it can."""
        if not 0 <= beats <= MOST_GREEDY:
            raise BadNumber(beats)
        row = []
        credit = self.full
        for _ in range(beats):
            came = 1 if credit >= self.den else 0
            credit = self.after(credit, came)
            row.append(came)
        return row

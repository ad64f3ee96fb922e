"""All that can follow from one moment on without a break."""

from crossinglights.errors import TooMany
from crossinglights.places import check_number

MOST_STATES = 5000


def check_most(most):
    """Raise BadNumber unless so many states can be asked for at the most."""
    check_number(most, 1, MOST_STATES)


def way_to(before, place):
    """Return the list of the comings that lead to a place; before gives the pair before each place, or None."""
    row = []
    while before[place] is not None:
        place, comings = before[place]
        row.append(comings)
    return row[::-1]


class Walk:
    """The moments to which comings lead from one without a break, and the least of the shortest rows that break.

    before gives for each moment, in the order of their rows, the pair of the moment before and the comings.
    """

    def __init__(self, turning, start, most):
        self.before = {start: None}
        self.row = None
        self.broken = ()
        found = [start]
        place = 0
        # The rows stay in order: by their lengths, then ascending, so the first that leads to a moment is the least.
        while place < len(found):
            moment = found[place]
            found.extend(self._step(turning, moment))
            place = place + 1
            if len(found) > most:
                raise TooMany(most)

    def _step(self, turning, moment):
        """Look at all that can come in a moment, and return the list of the moments that are new."""
        new = []
        for turn in turning.turns(moment):
            if len(turn.broken) > 0:
                self._keep_break(moment, turn)
            elif turn.later not in self.before:
                self.before[turn.later] = (moment, turn.comings())
                new.append(turn.later)
        return new

    def _keep_break(self, moment, turn):
        """Keep the first row that breaks something."""
        if self.row is None:
            self.row = [*way_to(self.before, moment), turn.comings()]
            self.broken = turn.broken

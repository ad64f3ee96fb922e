"""Phases: parts of a round in which some streams are green."""

from crossinglights.crossings import MOST_STREAMS
from crossinglights.errors import BadPhase
from crossinglights.places import first_strange

MOST_GREEN = 12
MOST_PAUSE = 9


def check_list(part, streams):
    """Raise BadPhase for this part unless these are different numbers of streams that a crossing can have."""
    if first_strange(streams, MOST_STREAMS) is not None:
        raise BadPhase(part)


class Phase:
    """Which streams are green for how many beats, what stretches or calls the phase, and the pause after it."""

    def __init__(self, green, *, least=1, most=None, pause=0, holds=(), calls=(), yields=False):
        check_list("green", green)
        if not 1 <= least <= MOST_GREEN:
            raise BadPhase("least")
        longest = least if most is None else most
        if not least <= longest <= MOST_GREEN:
            raise BadPhase("most")
        if not 0 <= pause <= MOST_PAUSE:
            raise BadPhase("pause")
        check_list("holds", holds)
        check_list("calls", calls)
        self.green = tuple(sorted(green))
        self.least = least
        self.most = longest
        self.pause = pause
        self.holds = tuple(sorted(holds))
        self.calls = tuple(sorted(calls))
        self.yields = yields

    def __eq__(self, other):
        return (isinstance(other, Phase) and self.green == other.green and self.least == other.least
                and self.most == other.most and self.pause == other.pause and self.holds == other.holds
                and self.calls == other.calls and self.yields == other.yields)

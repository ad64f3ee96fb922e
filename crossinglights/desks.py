"""Desks: towns that run live."""

from crossinglights.errors import NothingToRedo, NothingToUndo, UnknownLane, UnknownName
from crossinglights.moments import state_of
from crossinglights.names import is_name
from crossinglights.places import check_number, first_strange
from crossinglights.risks import breach_from
from crossinglights.rowtext import row_text
from crossinglights.spots import BUS
from crossinglights.states import first_state, green_lanes
from crossinglights.stepping import whole_turn
from crossinglights.towns import check_lane
from crossinglights.walks import check_most

MOST_MEMORY = 200
MOST_WAIT = 60
MOST_ROW = 200


def first_standing(town):
    """Return the standing of a new desk: the tuple of its now, state, came and left."""
    nothing = (0,) * len(town)
    return (0, first_state(town), nothing, nothing)


def sums(counts, more):
    """Return the tuple of the sums of the entries of two tuples."""
    return tuple([count + extra for count, extra in zip(counts, more)])


def standing_after(town, standing, row):
    """Return the standing after a row of comings; raise NotComing or Broken with the place of the first wrong ones."""
    for place, comings in enumerate(row):
        now, state, came, left = standing
        turn = whole_turn(town, state, comings, place)
        standing = (now + 1, state_of(turn.later), sums(came, turn.all_entered()), sums(left, turn.all_gone()))
    return standing


def told_comings(town, lanes, bus):
    """Return the comings with a vehicle or a call on some lanes and a bus on others; raise UnknownLane."""
    numbers = [*lanes, *bus]
    place = first_strange(numbers, len(town))
    if place is not None:
        raise UnknownLane(numbers[place])
    return tuple([BUS if number in bus else 1 if number in lanes else 0 for number in range(len(town))])


def tell_entry(lanes, bus):
    """Return the entry of the log for what was told."""
    words = ["tell", *[str(lane) for lane in sorted(lanes)]]
    if len(bus) > 0:
        words.extend([">", *[str(lane) for lane in sorted(bus)]])
    return " ".join(words)


class Desk:
    """A town that runs live: its standing, marks of standings, and deeds that can be taken back."""

    def __init__(self, town, *, memory=50, most=500):
        check_number(memory, 0, MOST_MEMORY)
        check_most(most)
        self.town = town
        self._most = most
        self._memory = memory
        self._standing = first_standing(town)
        self._marks = {}
        self._log = []
        # Deeds that can be taken back, and those that were: triples of the entry and the standings before and behind.
        self._done = []
        self._undone = []

    def __len__(self):
        return len(self.town)

    def __iter__(self):
        raise TypeError("the lanes of a desk are asked for by their numbers")

    def __getitem__(self, at):
        check_lane(self.town, at)
        state = self._standing[1]
        return (state[3][at], state[5][at], at in green_lanes(self.town, state))

    @property
    def now(self):
        """The number of beats of the standing."""
        return self._standing[0]

    @property
    def state(self):
        """The state before the next beat."""
        return self._standing[1]

    @property
    def came(self):
        """How many vehicles have come to each lane, or how many times calls have come on it."""
        return self._standing[2]

    @property
    def left(self):
        """How many vehicles have left each lane."""
        return self._standing[3]

    @property
    def memory(self):
        """The greatest number of deeds that can be taken back."""
        return self._memory

    @memory.setter
    def memory(self, value):
        self.remember(value)

    @property
    def marks(self):
        """The ascending list of the names of the marks."""
        return sorted(self._marks)

    @property
    def log(self):
        """The list of the entries of all deeds that are not taken back."""
        return list(self._log)

    def tell(self, *lanes, bus=()):
        """One beat in which vehicles or calls come on some lanes, buses on others, and nothing else."""
        comings = told_comings(self.town, lanes, bus)
        self._do(tell_entry(lanes, bus), standing_after(self.town, self._standing, [comings]))

    def wait(self, beats):
        """So many beats in which nothing comes."""
        check_number(beats, 1, MOST_WAIT)
        nothing = (0,) * len(self.town)
        self._do(f"wait {beats}", standing_after(self.town, self._standing, [nothing] * beats))

    def follow(self, row):
        """The beats of a row of comings."""
        check_number(len(row), 1, MOST_ROW)
        self._do("follow " + row_text(row), standing_after(self.town, self._standing, row))

    def back(self, name):
        """Return to the standing of a mark."""
        if name not in self._marks:
            raise UnknownName(name)
        self._do("back " + name, self._marks[name])

    def mark(self, name):
        """Keep the standing under a name."""
        if not is_name(name):
            raise UnknownName(name)
        self._marks[name] = self._standing

    def risk(self):
        """Return the number of comings after which a promise can be broken first, or None."""
        row = self.worst()
        return None if row is None else len(row)

    def worst(self):
        """Return the least of the shortest rows of comings that break a promise, or None."""
        return breach_from(self.town, self._standing[1], self._most)

    def undo(self):
        """Take back the last deed."""
        if len(self._done) == 0:
            raise NothingToUndo()
        deed = self._done.pop()
        self._undone.append(deed)
        self._log.pop()
        self._standing = deed[1]

    def redo(self):
        """Do the deed again that was taken back last."""
        if len(self._undone) == 0:
            raise NothingToRedo()
        self._add(self._undone.pop())

    def remember(self, number):
        """Change the greatest number of deeds that can be taken back."""
        check_number(number, 0, MOST_MEMORY)
        self._memory = number
        self._forget()

    def kept(self):
        """Return all that deeds, marks, undo and redo change, for restore."""
        return (self._standing, dict(self._marks), list(self._log), list(self._done), list(self._undone))

    def restore(self, earlier):
        """Become as the desk was when this was kept."""
        standing, marks, log, done, undone = earlier
        self._standing = standing
        self._marks = dict(marks)
        self._log = list(log)
        self._done = list(done)
        self._undone = list(undone)

    def _do(self, entry, standing):
        """Do a new deed."""
        self._undone = []
        self._add((entry, self._standing, standing))

    def _add(self, deed):
        """Do a deed."""
        self._done.append(deed)
        self._log.append(deed[0])
        self._standing = deed[2]
        self._forget()

    def _forget(self):
        """Forget the oldest deeds if there are too many."""
        self._done = self._done[max(0, len(self._done) - self._memory):]

"""Sets of beats of one round."""

from crossinglights.errors import BadBeats

MOST_BEATS = 60
MOST_COPIES = 99


def is_length(length):
    """Return True if a round can have so many beats."""
    return 1 <= length <= MOST_BEATS


def check_length(length):
    """Raise BadBeats unless a round can have so many beats."""
    if not is_length(length):
        raise BadBeats()


def check_same(one, other):
    """Raise BadBeats unless two sets are of rounds of the same length."""
    if one.length != other.length:
        raise BadBeats()


class Beats:
    """A set of beats of one round, which never changes."""

    def __init__(self, length, members):
        check_length(length)
        self.length = length
        self._held = tuple(sorted({member % length for member in members}))

    @staticmethod
    def every(length):
        """Return the set of all beats."""
        check_length(length)
        return Beats(length, list(range(length)))

    @staticmethod
    def none(length):
        """Return the set of no beats."""
        return Beats(length, [])

    @staticmethod
    def window(length, low, high):
        """Return the set of the beats that the integers from low to high give."""
        check_length(length)
        # One round of integers gives every beat, so a window of a thousand million is not counted out.
        last = min(high, low + length - 1)
        return Beats(length, list(range(low, last + 1)))

    def within(self, other):
        """Return True if every beat of this set is a beat of the other one."""
        check_same(self, other)
        return all([beat in other for beat in self._held])

    def unfolded(self, k):
        """Return the set of a round k times as long with the beats that give these modulo the old length."""
        if k < 1 or not is_length(self.length * k):
            raise BadBeats()
        return Beats(self.length * k, [beat + self.length * turn for turn in range(k) for beat in self._held])

    def runs(self):
        """Return the ascending list of the pairs of the begin and the number of beats of each run."""
        if len(self._held) == self.length:
            return [(0, self.length)]
        return [(beat, self._run_from(beat)) for beat in self._held if beat - 1 not in self]

    def _run_from(self, begin):
        """Return how many beats of the set follow each other from this one on; not all may be in the set."""
        count = 1
        while begin + count in self:
            count += 1
        return count

    def step(self):
        """Return the least shift, from 1 to the length, that gives the same set."""
        return min([k for k in range(1, self.length + 1) if self >> k == self])

    def __len__(self):
        return len(self._held)

    def __iter__(self):
        return iter(self._held)

    def __contains__(self, x):
        return x % self.length in self._held

    def __bool__(self):
        return bool(self._held)

    def __eq__(self, other):
        return isinstance(other, Beats) and self.length == other.length and self._held == other._held

    def __or__(self, other):
        check_same(self, other)
        return Beats(self.length, [*self._held, *other._held])

    def __and__(self, other):
        check_same(self, other)
        return Beats(self.length, [beat for beat in self._held if beat in other._held])

    def __xor__(self, other):
        check_same(self, other)
        mine = [beat for beat in self._held if beat not in other._held]
        others = [beat for beat in other._held if beat not in self._held]
        return Beats(self.length, [*mine, *others])

    def __invert__(self):
        return Beats(self.length, [beat for beat in range(self.length) if beat not in self._held])

    def __add__(self, other):
        check_same(self, other)
        return Beats(self.length, [x + y for x in self._held for y in other._held])

    def __sub__(self, other):
        check_same(self, other)
        return Beats(self.length, [x - y for x in self._held for y in other._held])

    def __neg__(self):
        return Beats(self.length, [-beat for beat in self._held])

    def __rshift__(self, other):
        return Beats(self.length, [beat + other for beat in self._held])

    def __lshift__(self, other):
        return Beats(self.length, [beat - other for beat in self._held])

    def __mul__(self, other):
        if not 0 <= other <= MOST_COPIES:
            raise BadBeats()
        total = Beats(self.length, [0])
        for _ in range(other):
            total = total + self
        return total

    def __rmul__(self, other):
        return self * other

    def __mod__(self, other):
        if other < 1 or self.length % other != 0:
            raise BadBeats()
        return Beats(other, list(self._held))

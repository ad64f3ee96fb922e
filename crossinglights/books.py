"""Books: how the lights of a crossing go on in each round."""

from crossinglights.errors import BadBook, UnknownPhase

LEAST_LENGTH = 2
MOST_LENGTH = 12
MOST_PHASES = 12


def is_book_length(length):
    """Return True if the round of a book can have so many beats."""
    return LEAST_LENGTH <= length <= MOST_LENGTH


def is_plain(phase):
    """Return True if the phase does not yield, has no holds and no calls, and is always equally long."""
    return not phase.yields and len(phase.holds) == 0 and len(phase.calls) == 0 and phase.most == phase.least


def is_fixed(phase):
    """Return True if the phase is shown in every round, and equally long."""
    return not phase.yields and len(phase.calls) == 0 and phase.most == phase.least


def is_known(phase, count):
    """Return True if a crossing with so many streams has all streams of the phase."""
    return all([stream < count for stream in [*phase.green, *phase.holds, *phase.calls]])


def needed_beats(main, phases):
    """Return the number of beats that the main phase needs and that the side phases can need."""
    return main.least + main.pause + sum([phase.most + phase.pause for phase in phases])


def check_book(crossing, length, main, phases):
    """Raise BadBook for the first part of a book that is wrong."""
    if not is_book_length(length):
        raise BadBook("length", 0)
    if len(phases) > MOST_PHASES:
        raise BadBook("phases", 0)
    if not is_plain(main):
        raise BadBook("phase", 0)
    for number, phase in enumerate([main, *phases]):
        if not is_known(phase, len(crossing)):
            raise BadBook("phase", number)
    if needed_beats(main, phases) > length:
        raise BadBook("beats", 0)


class Book:
    """A main phase, and side phases that are shown in its rounds."""

    def __init__(self, crossing, length, main, phases):
        check_book(crossing, length, main, phases)
        self.crossing = crossing
        self.length = length
        self.main = main
        self.phases = tuple(phases)
        self._all = (main, *phases)

    def __len__(self):
        return len(self._all)

    def __eq__(self, other):
        return (isinstance(other, Book) and self.crossing == other.crossing and self.length == other.length
                and self.main == other.main and self.phases == other.phases)

    def phase(self, number):
        """Return the phase with this number, the main phase for 0."""
        if not 0 <= number < len(self._all):
            raise UnknownPhase(number)
        return self._all[number]

    @property
    def fixed(self):
        """True if all side phases are shown in every round, and always equally long."""
        return all([is_fixed(phase) for phase in self.phases])

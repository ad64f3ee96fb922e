"""All errors of the package, side by side under LightsError."""


class LightsError(ValueError):
    """The base class of all errors of the package."""


class BadBeats(LightsError):
    """The length of a set of beats, or a number for an operator of it, is not allowed."""


class NotStage(LightsError):
    """Some streams are not a stage."""


class NotCrowd(LightsError):
    """Some streams are not a crowd."""


class Growing(LightsError):
    """The queue in front grows without end."""


class BadLights(LightsError):
    """Some lights are not proper."""


class NotFixed(LightsError):
    """A book is not fixed."""


class BadStreet(LightsError):
    """A street has a wrong travel."""


class UnknownState(LightsError):
    """A table has no such state."""


class NotTiered(LightsError):
    """A town is not tiered."""


class NothingToUndo(LightsError):
    """A desk has no deed to take back."""


class NothingToRedo(LightsError):
    """A desk has no deed to do again."""


class BadCrossing(LightsError):
    """A part of a crossing is wrong."""

    def __init__(self, part, place):
        self.part = part
        self.place = place


class BadPlan(LightsError):
    """A part of a plan is wrong."""

    def __init__(self, part, place):
        self.part = part
        self.place = place


class BadNet(LightsError):
    """A part of a net is wrong."""

    def __init__(self, part, place):
        self.part = part
        self.place = place


class BadBook(LightsError):
    """A part of a book is wrong."""

    def __init__(self, part, place):
        self.part = part
        self.place = place


class BadSite(LightsError):
    """A part of a site is wrong."""

    def __init__(self, part, place):
        self.part = part
        self.place = place


class BadTown(LightsError):
    """A part of a town is wrong."""

    def __init__(self, part, place):
        self.part = part
        self.place = place


class BadRate(LightsError):
    """A part of a rate is wrong."""

    def __init__(self, part):
        self.part = part


class BadPhase(LightsError):
    """A part of a phase is wrong."""

    def __init__(self, part):
        self.part = part


class BadLane(LightsError):
    """A part of a lane is wrong."""

    def __init__(self, part):
        self.part = part


class BadOrder(LightsError):
    """An entry of an order is wrong."""

    def __init__(self, place):
        self.place = place


class BadRing(LightsError):
    """An entry of a ring is wrong."""

    def __init__(self, place):
        self.place = place


class BadRates(LightsError):
    """A rate is missing, or has no stream."""

    def __init__(self, place):
        self.place = place


class BadSetting(LightsError):
    """An entry of a setting is wrong."""

    def __init__(self, place):
        self.place = place


class BadRow(LightsError):
    """A number of a row is negative."""

    def __init__(self, place):
        self.place = place


class BadWord(LightsError):
    """A word of the text of a row is wrong."""

    def __init__(self, place):
        self.place = place


class NotComing(LightsError):
    """Some comings cannot come."""

    def __init__(self, place):
        self.place = place


class Broken(LightsError):
    """Some comings break promises."""

    def __init__(self, place, breaks):
        self.place = place
        self.breaks = tuple(breaks)


class BadNumber(LightsError):
    """A number is not allowed."""

    def __init__(self, number):
        self.number = number


class TooMany(LightsError):
    """There are too many of something."""

    def __init__(self, number):
        self.number = number


class LongRound(LightsError):
    """A round would be longer than any plan."""

    def __init__(self, number):
        self.number = number


class UnknownTie(LightsError):
    """A net has no such tie."""

    def __init__(self, number):
        self.number = number


class UnknownNode(LightsError):
    """A net has no such node."""

    def __init__(self, number):
        self.number = number


class UnknownStream(LightsError):
    """A crossing has no such stream."""

    def __init__(self, number):
        self.number = number


class UnknownPhase(LightsError):
    """A book has no such phase."""

    def __init__(self, number):
        self.number = number


class UnknownSite(LightsError):
    """A town has no such site."""

    def __init__(self, number):
        self.number = number


class UnknownLane(LightsError):
    """A town has no such lane."""

    def __init__(self, number):
        self.number = number


class UnknownStreet(LightsError):
    """A town has no such street."""

    def __init__(self, number):
        self.number = number


class NoPlan(LightsError):
    """A stream of a book is not green in exactly one run."""

    def __init__(self, number):
        self.number = number


class BadLine(LightsError):
    """A line of the text of a town is wrong."""

    def __init__(self, number):
        self.number = number


class UnknownName(LightsError):
    """A name is not known."""

    def __init__(self, name):
        self.name = name


class BadCredit(LightsError):
    """A rate has no such credit."""

    def __init__(self, credit):
        self.credit = credit


class NoCredit(LightsError):
    """A vehicle comes with too little credit."""

    def __init__(self, credit):
        self.credit = credit


class ShortRound(LightsError):
    """A round is too short for a ring of an order."""

    def __init__(self, ring):
        self.ring = tuple(ring)


class BadCommand(LightsError):
    """A line is not a command, or its call raises."""

    def __init__(self, number, why):
        self.number = number
        self.why = why

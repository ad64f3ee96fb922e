"""The stretch of beats in which most more vehicles can come than leave."""

from crossinglights.flows import check_round, grows


def widest(rate, green):
    """Return the greatest difference of comings and green beats, and the begin and the beats of its stretch."""
    check_round(green)
    if grows(rate, green):
        return None
    # With so many beats more, as many rounds pass as den: no more vehicles come in them than leave.
    longest = rate.full + rate.den * green.length
    best = (0, 0, 0)
    for begin in range(green.length):
        greens = 0
        for beats in range(1, longest + 1):
            if begin + beats - 1 in green:
                greens = greens + 1
            best = min(best, (greens - rate.greatest(beats), beats, begin))
    lacking, beats, begin = best
    return (-lacking, begin, beats)

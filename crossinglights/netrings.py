"""Settings of a net and what they break, and the rings of a net."""

from crossinglights.beats import Beats
from crossinglights.errors import BadRing, BadSetting
from crossinglights.places import first_wrong
from crossinglights.ringlists import all_rings


def check_setting(net, setting):
    """Raise BadSetting unless the setting has a beat of the round for each node."""
    place = first_wrong(setting, net.nodes, 0, net.length - 1)
    if place is not None:
        raise BadSetting(place)


def broken(net, setting):
    """Return the ascending list of the numbers of the ties that the setting does not keep."""
    check_setting(net, setting)
    found = []
    for number, (first, second, allowed) in enumerate(net.ties):
        if setting[second] - setting[first] not in allowed:
            found.append(number)
    return found


def ends_of(net, step):
    """Return the pair of the nodes at which a step begins and ends, or None if there is no such step."""
    number, direction = step
    if not 0 <= number < len(net.ties) or direction not in (1, -1):
        return None
    first, second, _ = net.ties[number]
    return (first, second) if direction == 1 else (second, first)


def wrong_step(net, ring):
    """Return the first place that keeps the steps from being a ring, their number if only the end does, or None."""
    begins = []
    last = None
    for place, step in enumerate(ring):
        ends = ends_of(net, step)
        if ends is None or ends[0] in begins or (place > 0 and ends[0] != last):
            return place
        begins.append(ends[0])
        last = ends[1]
    if len(ring) < 2 or last != begins[0]:
        return len(ring)
    return None


def is_ring(net, ring):
    """Return True if the steps are a ring of the net."""
    return wrong_step(net, ring) is None


def ring_sum(net, ring):
    """Return the sum of the beats of the steps of a ring."""
    place = wrong_step(net, ring)
    if place is not None:
        raise BadRing(place)
    total = Beats(net.length, [0])
    for number, direction in ring:
        beats = net.ties[number][2]
        total = total + (beats if direction == 1 else -beats)
    return total


def misses(net, ring):
    """Return True if the steps are a ring of the net that no setting keeps."""
    return is_ring(net, ring) and 0 not in ring_sum(net, ring)


def rings(net):
    """Yield each ring with at least two different ties once, the short ones first."""
    for ring in all_rings(net.nodes, net.ties):
        yield list(ring)

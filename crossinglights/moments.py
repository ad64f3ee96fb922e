"""Moments: states, taken apart by sites.

A moment is the tuple (beat, parts, roads) of the beat and the roads of a state, and a part (see scenes) for each site.
"""

from crossinglights.scenes import first_part


def first_moment(town):
    """Return the moment before the beat 0 of a town in which nothing has ever come."""
    parts = [first_part(site, -offset % town.length) for site, offset in zip(town.sites, town.offsets)]
    return (0, tuple(parts), tuple([(0,) * street.travel for street in town.streets]))


def spots_of(state):
    """Return the list of the spots of all lanes."""
    columns = state[3:7]
    return list(zip(*columns))


def moment_of(town, state):
    """Return the moment of a state."""
    lights, since, spots = (state[1], state[2], spots_of(state))
    parts = []
    first = 0
    for number, site in enumerate(town.sites):
        end = first + len(site.lanes)
        parts.append((lights[number], since[first:end], tuple(spots[first:end])))
        first = end
    return (state[0], tuple(parts), state[7])


def state_of(moment):
    """Return the state of a moment."""
    beat, parts, roads = moment
    lights = tuple([part[0] for part in parts])
    since = tuple([beats for part in parts for beats in part[1]])
    spots = [spot for part in parts for spot in part[2]]
    columns = list(zip(*spots))
    return (beat, lights, since, *columns, roads)

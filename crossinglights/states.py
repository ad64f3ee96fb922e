"""States of a town, and what can come in them."""

from crossinglights.lights import shown
from crossinglights.listings import products
from crossinglights.moments import first_moment, spots_of, state_of
from crossinglights.spots import lane_comings


def first_state(town):
    """Return the state before the beat 0 of a town in which nothing has ever come."""
    return state_of(first_moment(town))


def coming_rows(town, state):
    """Return the list of what can come to each lane, an ascending list for each."""
    lanes = [lane for site in town.sites for lane in site.lanes]
    return [lane_comings(lane, spot) for lane, spot in zip(lanes, spots_of(state))]


def comings_list(town, state):
    """Return the ascending list of all comings that can come."""
    return products(coming_rows(town, state))


def can_come(town, state, comings):
    """Return True if these comings can come."""
    rows = coming_rows(town, state)
    return len(comings) == len(rows) and all([coming in row for coming, row in zip(comings, rows)])


def green_streams(town, state, number):
    """Return the streams of a site that are green in the beat of the state."""
    beat = (state[0] - town.offsets[number]) % town.length
    phase, count = state[1][number]
    return shown(town.sites[number].book, (beat, phase, count))


def green_lanes(town, state):
    """Return the ascending tuple of the lanes that are green in the beat of the state."""
    return tuple([town.lane_number(number, stream) for number in range(len(town.sites))
                  for stream in green_streams(town, state, number)])

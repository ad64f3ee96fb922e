"""Rows of comings, played from the first state of a town on."""

from crossinglights.moments import state_of
from crossinglights.states import first_state
from crossinglights.stepping import whole_turn


def play(town, row):
    """Return the list of all states, the first one included."""
    states = [first_state(town)]
    for place, comings in enumerate(row):
        states.append(state_of(whole_turn(town, states[-1], comings, place).later))
    return states

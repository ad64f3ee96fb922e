"""One town in one beat."""

from crossinglights.listings import products
from crossinglights.scenes import Scene


class TownTurn:
    """What happens in a town in a beat: the turns of its sites, what is broken, and the moment that follows."""

    def __init__(self, site_turns, later):
        self.broken = tuple(sorted([entry for turn in site_turns for entry in turn.broken]))
        self.later = later
        self._site_turns = site_turns

    def comings(self):
        """Return what comes to each lane from outside."""
        return tuple([turn.coming for turn in self._lane_turns()])

    def all_entered(self):
        """Return 1 for each lane to which a vehicle or a call comes, otherwise 0."""
        return tuple([turn.entered for turn in self._lane_turns()])

    def all_gone(self):
        """Return 1 for each lane that a vehicle leaves, otherwise 0."""
        return tuple([turn.gone for turn in self._lane_turns()])

    def _lane_turns(self):
        """Return the list of the turns of all lanes."""
        return [lane_turn for site_turn in self._site_turns for lane_turn in site_turn.lane_turns]


class Turning:
    """Finds the turns of a town, and keeps those of its sites: they come again in many moments."""

    def __init__(self, town, uncounted=()):
        self._town = town
        self._uncounted = uncounted
        self._starts = [street.start for street in town.streets]
        self._ends = [street.end for street in town.streets]
        self._known = {}

    def turns(self, moment):
        """Return the list of the turns for all comings that can come, in the order of the comings."""
        rows = [self._turns_at(number, moment) for number in range(len(self._town.sites))]
        return [self._turn(moment, chosen) for chosen in products(rows)]

    def turn(self, moment, comings):
        """Return the turn for comings that can come."""
        chosen = []
        for number, site in enumerate(self._town.sites):
            first = self._town.lane_number(number, 0)
            scene = self._scene(number, moment, self._arrivals(number, moment))
            chosen.append(scene.turn(comings[first:first + len(site.lanes)]))
        return self._turn(moment, chosen)

    def _arrivals(self, number, moment):
        """Return the tuple of the streams of a site to which a vehicle comes from a street."""
        ends = [end for end, road in zip(self._ends, moment[2]) if road[0] == 1]
        return tuple([stream for place, stream in ends if place == number])

    def _scene(self, number, moment, arriving):
        """Return the scene of a site."""
        beat = (moment[0] - self._town.offsets[number]) % self._town.length
        first = self._town.lane_number(number, 0)
        return Scene(self._town.sites[number], first, beat, moment[1][number], arriving, self._uncounted)

    def _turns_at(self, number, moment):
        """Return the list of the turns of a site."""
        arriving = self._arrivals(number, moment)
        if len(self._town.sites) == 1:
            # The only site has another part in each moment, so what is kept of it would never come again.
            return self._scene(number, moment, arriving).turns()
        key = (number, moment[0], moment[1][number], arriving)
        if key not in self._known:
            self._known[key] = self._scene(number, moment, arriving).turns()
        return self._known[key]

    def _turn(self, moment, chosen):
        """Return the turn with these turns of the sites."""
        roads = []
        for (site, stream), road in zip(self._starts, moment[2]):
            roads.append((*road[1:], chosen[site].lane_turns[stream].gone))
        parts = tuple([turn.part for turn in chosen])
        return TownTurn(chosen, ((moment[0] + 1) % self._town.length, parts, tuple(roads)))

"""A watch: what was seen of a fleet, and which boats agree with it."""

from lanternwatch.columns import all_boats, seen
from lanternwatch.errors import BadMoment, BadSight, Full
from lanternwatch.forms import LAST_MOMENT, is_number, is_sight

MOST_SIGHTS = 200


def check_sight(fleet, value):
    """Refuses what is no sight of the fleet's colours."""
    if not is_sight(value, fleet.plain()[0]):
        raise BadSight("no sight of the fleet's colours")


class Watch:
    """The sights of a fleet, in the order in which they came."""

    def __init__(self, fleet):
        self._fleet = fleet
        self._sights = []

    def fleet(self):
        """The fleet that is watched."""
        return self._fleet

    def put(self, sight):
        """Takes one more sight, of whatever moment."""
        check_sight(self._fleet, sight)
        if len(self._sights) == MOST_SIGHTS:
            raise Full("a watch takes 200 sights")
        moment, side, colours = sight
        self._sights.append((moment, side, tuple(colours)))

    def sights(self):
        """The sights, in the order in which they came."""
        return list(self._sights)

    def last_moment(self):
        """The greatest moment of any sight, None without a sight."""
        return max([sight[0] for sight in self._sights], default=None)

    def agreeing(self, moment):
        """The boats that agree with all sights of a moment."""
        if not is_number(moment, LAST_MOMENT):
            raise BadMoment("moments are the numbers from 0 to 99")
        return self._agreeing_with([sight for sight in self._sights if sight[0] == moment])

    def steady(self):
        """The boats that agree with all sights, whatever their moments."""
        return self._agreeing_with(self._sights)

    def _agreeing_with(self, sights):
        boats = all_boats(self._fleet)
        for _, side, colours in sights:
            boats = [
                (kind, course) for kind, course in boats
                if seen(self._fleet, kind, course, side) == colours
            ]
        return boats

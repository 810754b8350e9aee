"""Which boats may be told apart by looks, and how: what plans and foes both need."""

from lanternwatch.columns import all_boats, looks_of_boat
from lanternwatch.errors import BadBoats, BadMany
from lanternwatch.forms import MOST_LOOKS, POINTS, is_boat, is_number


def boats_in_order(fleet, boats):
    """The boats in the fleet's order; refuses what is no list of unlike boats, one at least."""
    if not isinstance(boats, list) or len(boats) == 0:
        raise BadBoats("no list with a boat")
    kinds = fleet.kinds()
    if not all([is_boat(boat, kinds) for boat in boats]):
        raise BadBoats("no list of boats of the fleet")
    handed = {boat: True for boat in boats}
    if len(handed) < len(boats):
        raise BadBoats("a boat stands twice")
    return [boat for boat in all_boats(fleet) if boat in handed]


def check_many(value):
    """Refuses what is no number of looks that may be let."""
    if not is_number(value, MOST_LOOKS):
        raise BadMany("looks are let from 0 to 3")


def by_columns(boats, columns):
    """Pairs of a column and the boats that show it, by columns, rising; columns has that of each boat."""
    parts = {}
    for boat in boats:
        parts.setdefault(columns[boat], []).append(boat)
    return [(told, parts[told]) for told in sorted(parts)]


class Planner:
    """Finds the plans of some boats of a fleet, and of any of them."""

    def __init__(self, fleet, boats):
        looks = {boat: looks_of_boat(fleet, boat) for boat in boats}
        self._columns = [{boat: looks[boat][side] for boat in boats} for side in range(POINTS)]
        self._found = {}

    def parts(self, boats, side):
        """The boats by the columns that they show to a side."""
        return by_columns(boats, self._columns[side])

    def plan(self, boats, most):
        """A plan that takes as few looks as any, None where that are more than most."""
        kind = boats[0][0]
        if all([boat[0] == kind for boat in boats]):
            return ("kind", kind)
        for looks in range(1, most + 1):
            plan = self._look(boats, looks)
            if plan is not None:
                return plan
        return None

    def _look(self, boats, looks):
        # Other sides leave the same boats again and again.
        key = (looks, tuple(boats))
        if key not in self._found:
            self._found[key] = self._first_look(boats, looks)
        return self._found[key]

    def _first_look(self, boats, looks):
        for side in range(POINTS):
            parts = self.parts(boats, side)
            # Where a look parts nothing, the rest would be a plan with a look less, and there is none.
            branches = self._branches(parts, looks - 1) if len(parts) > 1 else None
            if branches is not None:
                return ("look", side, branches)
        return None

    def _branches(self, parts, looks):
        branches = []
        for column, boats in parts:
            plan = self.plan(boats, looks)
            if plan is None:
                return None
            branches.append((column, plan))
        return tuple(branches)

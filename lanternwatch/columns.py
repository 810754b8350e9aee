"""What boats show: columns of colours, round about."""

from lanternwatch.errors import BadBoats, BadPoint
from lanternwatch.forms import LAST_POINT, POINTS, is_boat, is_point


def check_point(value, called):
    """Refuses what is no point; it is called so in the refusal."""
    if not is_point(value):
        raise BadPoint(f"the {called} is no point from 0 to 31")


def check_boat(fleet, value, called):
    """Refuses what is no boat of the fleet; it is called so in the refusal."""
    if not is_boat(value, fleet.kinds()):
        raise BadBoats(f"the {called} boat is none of the fleet")


def shows(first, last, bearing):
    """Whether a lamp from the first to the last bearing, round about, shows at this one."""
    return (bearing - first) % POINTS <= (last - first) % POINTS


def colours_at(lamps, bearing):
    """The colours of those lamps that show at a bearing, in the lamps' order."""
    return tuple([colour for colour, first, last in lamps if shows(first, last, bearing)])


def column(fleet, kind, bearing):
    """The colours that a boat of the kind shows at a bearing, from above."""
    lamps = fleet.lamps(kind)
    check_point(bearing, "bearing")
    return colours_at(lamps, bearing)


def seen(fleet, kind, course, side):
    """The column that a boat of the kind with this course shows to a side."""
    lamps = fleet.lamps(kind)
    check_point(course, "course")
    check_point(side, "side")
    return colours_at(lamps, (side - course) % POINTS)


def looks_of_boat(fleet, boat):
    """The columns that a boat shows, by the sides from 0 to 31."""
    kind, course = boat
    return [seen(fleet, kind, course, side) for side in range(POINTS)]


def sectors(fleet, kind):
    """The kind's sectors as tuples (FIRST, LAST, COLUMN), from the one that has bearing 0."""
    looks = looks_of_boat(fleet, (kind, 0))
    # A look's neighbour at index -1 is the last one: bearings go round about.
    firsts = [bearing for bearing in range(POINTS) if looks[bearing] != looks[bearing - 1]]
    if not firsts:
        return [(0, LAST_POINT, looks[0])]
    if firsts[0] > 0:
        firsts = firsts[-1:] + firsts[:-1]
    nexts = firsts[1:] + firsts[:1]
    return [(first, (after - 1) % POINTS, looks[first]) for first, after in zip(firsts, nexts)]


def are_alike(fleet, one, other):
    """Whether each side sees the same column of both boats."""
    check_boat(fleet, one, "one")
    check_boat(fleet, other, "other")
    return looks_of_boat(fleet, one) == looks_of_boat(fleet, other)


def all_boats(fleet):
    """Every boat of the fleet, by the kinds' order, then by courses."""
    return [(kind, course) for kind in fleet.kinds() for course in range(POINTS)]

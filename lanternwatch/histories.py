"""Hidden lamps: how many were hidden at the least, if what was seen was one boat of a kind."""

from lanternwatch.columns import check_point, colours_at
from lanternwatch.forms import POINTS
from lanternwatch.watches import check_sight


def left_out(some, whole):
    """How many of the whole are left out where some are the rest, in order; None where they aren't."""
    found = 0
    for colour in whole:
        # The first that fits may always be taken: it leaves the most for those behind it.
        if found < len(some) and some[found] == colour:
            found += 1
    if found < len(some):
        return None
    return len(whole) - len(some)


def hides(fleet, kind, course, sight):
    """How many lamps a boat hid at a sight, None where it can't have been seen so."""
    lamps = fleet.lamps(kind)
    check_point(course, "course")
    check_sight(fleet, sight)
    _, side, colours = sight
    return left_out(colours, colours_at(lamps, (side - course) % POINTS))


def least(numbers):
    """The least of those that are numbers, None where all are None."""
    return min([number for number in numbers if number is not None], default=None)


def total(numbers):
    """The sum of the numbers, None where one is None."""
    return None if None in numbers else sum(numbers)


def near(course, turn):
    """The courses that are, the shorter way round about, no more points apart from this one."""
    return [
        other for other in range(POINTS)
        if min((other - course) % POINTS, (course - other) % POINTS) <= turn
    ]


def sights_by_moments(watch):
    """For each moment from 0 to the last one a list of its sights."""
    last = watch.last_moment()
    if last is None:
        return []
    sights = watch.sights()
    return [[sight for sight in sights if sight[0] == moment] for moment in range(last + 1)]


def table(watch, kind):
    """For each moment and each course the least that a history hides up to there, None without one."""
    fleet = watch.fleet()
    nearby = [near(course, fleet.turn(kind)) for course in range(POINTS)]
    rows = []
    for sights in sights_by_moments(watch):
        row = [total([hides(fleet, kind, course, sight) for sight in sights]) for course in range(POINTS)]
        if rows:
            before = [least([rows[-1][other] for other in courses]) for courses in nearby]
            row = [total(pair) for pair in zip(before, row)]
        rows.append(row)
    return rows


def least_course(row, courses):
    """The first of the courses that has the least number of a table's row."""
    number = least([row[course] for course in courses])
    return [course for course in courses if row[course] == number][0]


def history(watch, kind):
    """The least that a history hides, with the courses of one that does; None where there is none."""
    rows = table(watch, kind)
    if not rows:
        return (0, [])
    many = least(rows[-1])
    if many is None:
        return None
    turn = watch.fleet().turn(kind)
    courses = [rows[-1].index(many)]
    for row in reversed(rows[:-1]):
        courses.append(least_course(row, near(courses[-1], turn)))
    courses.reverse()
    return (many, courses)


def likely(watch):
    """Pairs of how many lamps a history hides and its kind, by how many, then in the kinds' order."""
    told = [(history(watch, kind), kind) for kind in watch.fleet().kinds()]
    return sorted([(found[0], kind) for found, kind in told if found is not None], key=lambda pair: pair[0])

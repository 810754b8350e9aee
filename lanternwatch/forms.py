"""Which values have the form of a number, a point, a boat or a sight; others may be anything."""

POINTS = 32
LAST_POINT = 31
LAST_MOMENT = 99
LONGEST_COLUMN = 6
MOST_LOOKS = 3


def is_number(value, most):
    """Whether a value is a number from 0 to most."""
    # To Python, True and False are whole numbers; here they are none.
    return isinstance(value, int) and not isinstance(value, bool) and 0 <= value <= most


def is_point(value):
    """Whether a value is a point of the compass."""
    return is_number(value, LAST_POINT)


def is_name_of(value, names):
    """Whether a value is one of these names."""
    # No value but a text is compared: others may be equal to anything.
    return isinstance(value, str) and value in names


def is_boat(value, kinds):
    """Whether a value is a pair (KIND, COURSE), its kind one of these names."""
    if not isinstance(value, tuple) or len(value) != 2:
        return False
    kind, course = value
    return is_name_of(kind, kinds) and is_point(course)


def is_column(value, colours):
    """Whether a value is a column of these colours."""
    if not isinstance(value, tuple) or len(value) > LONGEST_COLUMN:
        return False
    return all([is_name_of(colour, colours) for colour in value])


def is_sight(value, colours):
    """Whether a value is a tuple (MOMENT, SIDE, COLUMN), its column of these colours."""
    if not isinstance(value, tuple) or len(value) != 3:
        return False
    moment, side, colours_seen = value
    return is_number(moment, LAST_MOMENT) and is_point(side) and is_column(colours_seen, colours)

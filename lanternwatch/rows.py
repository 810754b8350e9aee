"""The rows of a text, each by its words alone; None stands for what is no such row."""

from lanternwatch.forms import LAST_MOMENT, LAST_POINT, LONGEST_COLUMN

LETTERS = "abcdefghijklmnopqrstuvwxyz"
ROW_WORDS = ("colours", "kind", "lamp", "sight")
LONGEST_NAME = 6
MOST_COLOURS = 6
MOST_TURN = 16


def is_name(word):
    """Whether a word may be the name of a colour or of a kind."""
    if word in ROW_WORDS or not 1 <= len(word) <= LONGEST_NAME:
        return False
    return all([sign in LETTERS for sign in word])


def number_of(word, most):
    """The number from 0 to most that a word writes, None where it writes none."""
    # Each number is written in one way only, so no other way of writing it gets through.
    for number in range(most + 1):
        if word == str(number):
            return number
    return None


def colours_of(words):
    """A row of colours as a tuple of names."""
    names = words[1:]
    if not 1 <= len(names) <= MOST_COLOURS or len(set(names)) < len(names):
        return None
    if not all([is_name(name) for name in names]):
        return None
    return tuple(names)


def kind_of(words):
    """A kind's row as a pair (KIND, TURN)."""
    if len(words) != 3 or not is_name(words[1]):
        return None
    turn = number_of(words[2], MOST_TURN)
    if turn is None:
        return None
    return (words[1], turn)


def lamp_of(words, colours):
    """A lamp's row as a tuple (COLOUR, FROM, TO), its colour one of the colours."""
    if len(words) != 4 or words[1] not in colours:
        return None
    first = number_of(words[2], LAST_POINT)
    last = number_of(words[3], LAST_POINT)
    if first is None or last is None:
        return None
    return (words[1], first, last)


def sight_of(words, colours):
    """A sight's row as a tuple (MOMENT, SIDE, COLUMN), its column of these colours."""
    if not 3 <= len(words) <= 3 + LONGEST_COLUMN:
        return None
    moment = number_of(words[1], LAST_MOMENT)
    side = number_of(words[2], LAST_POINT)
    column = tuple(words[3:])
    if moment is None or side is None:
        return None
    if not all([colour in colours for colour in column]):
        return None
    return (moment, side, column)

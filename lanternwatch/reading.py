"""Texts, read line by line: a fleet, and what was seen of it."""

from lanternwatch.errors import BadText
from lanternwatch.rows import colours_of, kind_of, lamp_of, sight_of

MOST_KINDS = 6
MOST_LAMPS = 6
MOST_SIGHTS = 60


class Draft:
    """What the rows of a text have told so far."""

    def __init__(self):
        self._colours = ()
        self._kinds = []
        self._sights = []

    def take(self, words):
        """True where a row with these words may stand here; else nothing is taken."""
        word = words[0]
        if word == "colours":
            return self._take_colours(words)
        if word == "kind":
            return self._take_kind(words)
        if word == "lamp":
            return self._take_lamp(words)
        return word == "sight" and self._take_sight(words)

    def lacks(self):
        """Whether something must still come: colours, a kind, or a kind's first lamp."""
        return not self._kinds or not self._kinds[-1][2]

    def told(self):
        """The fleet's tuple, and a list of the sights."""
        kinds = tuple([(kind, turn, tuple(lamps)) for kind, turn, lamps in self._kinds])
        return ((self._colours, kinds), list(self._sights))

    def _take_colours(self, words):
        colours = colours_of(words)
        if self._colours or colours is None:
            return False
        self._colours = colours
        return True

    def _take_kind(self, words):
        row = kind_of(words)
        if row is None or not self._may_begin_kind():
            return False
        kind, turn = row
        if kind in [other[0] for other in self._kinds]:
            return False
        self._kinds.append((kind, turn, []))
        return True

    def _may_begin_kind(self):
        if not self._colours or self._sights:
            return False
        return not self._kinds or (not self.lacks() and len(self._kinds) < MOST_KINDS)

    def _take_lamp(self, words):
        lamp = lamp_of(words, self._colours)
        if lamp is None or not self._kinds or self._sights:
            return False
        lamps = self._kinds[-1][2]
        if len(lamps) == MOST_LAMPS:
            return False
        lamps.append(lamp)
        return True

    def _take_sight(self, words):
        sight = sight_of(words, self._colours)
        if sight is None or self.lacks() or len(self._sights) == MOST_SIGHTS:
            return False
        self._sights.append(sight)
        return True


def words_of(line):
    """The words of a line, without its remark."""
    # Blanks alone part words: a split at all white space would part at other signs, too.
    return [word for word in line.split("#")[0].split(" ") if word]


def read(text):
    """A text as a pair: the fleet's tuple, and a list of the sights in their order."""
    if not isinstance(text, str):
        raise BadText(0)
    lines = text.split("\n")
    draft = Draft()
    for number, line in enumerate(lines, start=1):
        words = words_of(line)
        if "\t" in line or (words and not draft.take(words)):
            raise BadText(number)
    if draft.lacks():
        raise BadText(len(lines) + 1)
    return draft.told()

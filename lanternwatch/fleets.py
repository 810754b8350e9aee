"""A fleet: the colours that there are, and the kinds of boats with their lamps."""

from lanternwatch.errors import NoKind
from lanternwatch.forms import is_name_of


def kind_row(row):
    """A tuple (KIND, TURN, LAMPS), made anew throughout."""
    kind, turn, lamps = row
    return (kind, turn, tuple([tuple(lamp) for lamp in lamps]))


class Fleet:
    """The kinds of a fleet, asked for by their names."""

    def __init__(self, plain):
        colours, kinds = plain
        self._colours = tuple(colours)
        self._rows = tuple([kind_row(row) for row in kinds])

    def plain(self):
        """The fleet as a tuple (COLOURS, KINDS)."""
        return (self._colours, self._rows)

    def kinds(self):
        """The names of the kinds, in their order."""
        return [row[0] for row in self._rows]

    def turn(self, kind):
        """The most points by which a boat of the kind turns in a moment."""
        return self._row(kind)[1]

    def lamps(self, kind):
        """The lamps of the kind, from above."""
        return list(self._row(kind)[2])

    def _row(self, kind):
        kinds = self.kinds()
        if is_name_of(kind, kinds):
            return self._rows[kinds.index(kind)]
        raise NoKind("the fleet has no kind of this name")

"""A desk: it has a watch, and answers lines of words by lists of texts."""

from lanternwatch.columns import sectors
from lanternwatch.errors import Full, NoKind
from lanternwatch.fleets import Fleet
from lanternwatch.forms import LAST_MOMENT, MOST_LOOKS
from lanternwatch.histories import history, likely
from lanternwatch.looking import best_plan, way_of
from lanternwatch.reading import read, words_of
from lanternwatch.rows import number_of, sight_of
from lanternwatch.showing import row_of
from lanternwatch.watches import Watch

DARK = "dark"
NONE = "none"
NO_LINE = "no line"


def watch_of(plain, sights):
    """A watch of a fleet's tuple, with these sights."""
    watch = Watch(Fleet(plain))
    for sight in sights:
        watch.put(sight)
    return watch


def is_line(value):
    """Whether a value is a text with those signs alone that may stand in a line."""
    return isinstance(value, str) and all([" " <= sign <= "~" and sign != "#" for sign in value])


def rows_of(tuples):
    """A text of each tuple's words."""
    return [row_of(words) for words in tuples]


def colour_words(colours):
    """The words that stand for a column."""
    return colours if colours else (DARK,)


def sector_row(sector):
    """A text of a sector."""
    first, last, colours = sector
    return row_of([first, last, *colour_words(colours)])


def way_row(way):
    """A text of the looks that come to a kind, and of the kind."""
    looks, kind = way
    words = []
    for side, colours in looks:
        called = "-".join(colour_words(colours))
        words.append(f"{side}:{called}")
    return row_of([*words, kind])


class Desk:
    """A watch of the fleet and of the sights that a text tells."""

    def __init__(self, text):
        plain, sights = read(text)
        self._watch = watch_of(plain, sights)

    def watch(self):
        """A watch with the same sights, which may be changed as one likes."""
        return watch_of(self._watch.fleet().plain(), self._watch.sights())

    def say(self, line):
        """The answer to a line, a list of texts."""
        words = words_of(line) if is_line(line) else []
        try:
            return self._answer(words)
        except NoKind:
            return ["no kind"]
        except Full:
            return ["full"]

    def _answer(self, words):
        if words[:1] == ["sight"]:
            return self._put(words)
        match words:
            case ["agree", word]:
                return self._agree(word)
            case ["steady"]:
                return rows_of(self._watch.steady())
            case ["sectors", word]:
                return self._sectors(word)
            case ["hidden", word]:
                return self._hidden(word)
            case ["likely"]:
                return rows_of(likely(self._watch))
            case ["plan", word]:
                return self._plan(word)
            case _:
                return [NO_LINE]

    def _put(self, words):
        sight = sight_of(words, self._watch.fleet().plain()[0])
        if sight is None:
            return [NO_LINE]
        self._watch.put(sight)
        return ["done"]

    def _agree(self, word):
        moment = number_of(word, LAST_MOMENT)
        if moment is None:
            return [NO_LINE]
        return rows_of(self._watch.agreeing(moment))

    def _sectors(self, kind):
        return [sector_row(sector) for sector in sectors(self._watch.fleet(), kind)]

    def _hidden(self, kind):
        told = history(self._watch, kind)
        if told is None:
            return [NONE]
        many, courses = told
        return [row_of([many, *courses])]

    def _plan(self, word):
        most = number_of(word, MOST_LOOKS)
        if most is None:
            return [NO_LINE]
        fleet = self._watch.fleet()
        boats = self._watch.steady()
        plan = best_plan(fleet, boats, most) if boats else None
        if plan is None:
            return [NONE]
        return [way_row(way_of(fleet, plan, boat)) for boat in boats]

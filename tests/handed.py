"""Values that tests hand in: fleets, and what is none of the things that are wanted."""

import random

from lanternwatch.fleets import Fleet

NAMES = ["a", "bb", "ccc", "dddd", "eeeee", "ffffff"]

# A tug is seen otherwise from each quarter; a buoy from all sides alike; a twin is a tug turned round.
HARBOUR = (
    ("red", "green", "white"),
    (
        ("tug", 3, (("white", 24, 7), ("red", 0, 11), ("white", 30, 1))),
        ("buoy", 0, (("green", 5, 4),)),
        ("twin", 16, (("white", 8, 23), ("red", 16, 27), ("white", 14, 17))),
        ("red", 1, (("red", 31, 0), ("red", 15, 16))),
    ),
)


class Equal:
    """A value that is equal to any other."""

    def __eq__(self, other):
        return True

    __hash__ = None


class Loud:
    """A value that can't be compared, kept as a key or shown."""

    def __eq__(self, other):
        raise RuntimeError("compared")

    def __lt__(self, other):
        raise RuntimeError("compared")

    __gt__ = __le__ = __ge__ = __lt__

    def __hash__(self):
        raise RuntimeError("kept")

    def __repr__(self):
        raise RuntimeError("shown")

    __str__ = __repr__


# What is neither a text nor a whole number nor a tuple.
ODD = [None, True, False, 1.0, 0.0, 1.5, 3 + 0j, b"tug", b"", ["tug"], [3], ["tug", 3], [], {}, {"tug": 3},
       {3}, {"tug"}, set(), frozenset([3]), range(3), object(), int, str, tuple, len, Fleet, Equal(), Loud(),
       bytearray(b"tug"), iter([3])]
TUPLES = [(), (3,), ("tug",), ("tug", 3, 3), (3, "tug"), (None,), ((),), (3, 3, 3)]
TEXTS = ["", " ", "0", "1", "31", "3.0", "point", "north", "tugs", "tu", "TUG", "Tug", " tug", "tug ",
         "tug tug", "kind", "dark", "green", "white"]

NO_KINDS = ODD + TUPLES + TEXTS + [0, 1, 3, -1, 9999999]
NO_POINTS = ODD + TUPLES + TEXTS + [-1, -2, -32, 32, 33, 63, 64, 100, 9999999, -9999999, "tug"]


def name_of(value):
    """How a test calls a value that may be one that can't be shown."""
    return value.__class__.__name__ if isinstance(value, (Loud, Equal)) else repr(value)


def some_fleet(seed):
    """A fleet's tuple, one of many: the same of the same seed."""
    chance = random.Random(seed)
    colours = tuple(NAMES[:chance.randint(1, 6)])
    kinds = []
    for name in NAMES[:chance.randint(1, 6)]:
        lamps = [(chance.choice(colours), chance.randint(0, 31), chance.randint(0, 31))
                 for _ in range(chance.randint(1, 6))]
        kinds.append((name, chance.randint(0, 16), tuple(lamps)))
    return (colours, tuple(kinds))


def some_sights(seed, colours, many):
    """So many sights of these colours, the same of the same seed."""
    chance = random.Random(seed)
    return [(chance.randint(0, 99), chance.randint(0, 31),
             tuple([chance.choice(colours) for _ in range(chance.randint(0, 6))]))
            for _ in range(many)]


def column_by_steps(plain, kind, bearing):
    """A kind's column, told by going from each lamp's first bearing to its last, step by step."""
    told = []
    for name, _, lamps in plain[1]:
        if name == kind:
            for colour, first, last in lamps:
                bearings = [first]
                while bearings[-1] != last:
                    bearings.append(0 if bearings[-1] == 31 else bearings[-1] + 1)
                if bearing in bearings:
                    told.append(colour)
    return tuple(told)

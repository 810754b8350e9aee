"""Values that tests hand in: fleets, and what is none of the things that are wanted."""

import random

from lanternwatch.columns import all_boats
from lanternwatch.fleets import Fleet
from lanternwatch.watches import Watch

NAMES = ["a", "bb", "ccc", "dddd", "eeeee", "ffffff"]

# A tug is seen otherwise from each quarter; a buoy from all sides alike; a twin is a tug turned round.
HARBOUR = (
    ("red", "green", "white"),
    (
        ("tug", 3, (("white", 24, 7), ("red", 0, 11), ("white", 30, 1))),
        ("buoy", 0, (("green", 5, 4),)),
        ("twin", 16, (("white", 8, 23), ("red", 16, 27), ("white", 14, 17))),
        ("red", 1, (("red", 31, 0), ("red", 15, 16))),
    ),
)


class Equal:
    """A value that is equal to any other."""

    def __eq__(self, other):
        return True

    __hash__ = None


class Loud:
    """A value that can't be compared, kept as a key or shown."""

    def __eq__(self, other):
        raise RuntimeError("compared")

    def __lt__(self, other):
        raise RuntimeError("compared")

    __gt__ = __le__ = __ge__ = __lt__

    def __hash__(self):
        raise RuntimeError("kept")

    def __repr__(self):
        raise RuntimeError("shown")

    __str__ = __repr__


# What is neither a text nor a whole number nor a tuple.
ODD = [None, True, False, 1.0, 0.0, 1.5, 3 + 0j, b"tug", b"", ["tug"], [3], ["tug", 3], [], {}, {"tug": 3},
       {3}, {"tug"}, set(), frozenset([3]), range(3), object(), int, str, tuple, len, Fleet, Equal(), Loud(),
       bytearray(b"tug"), iter([3])]
TUPLES = [(), (3,), ("tug",), ("tug", 3, 3), (3, "tug"), (None,), ((),), (3, 3, 3)]
TEXTS = ["", " ", "0", "1", "31", "3.0", "point", "north", "tugs", "tu", "TUG", "Tug", " tug", "tug ",
         "tug tug", "kind", "dark", "green", "white"]

NO_KINDS = ODD + TUPLES + TEXTS + [0, 1, 3, -1, 9999999]
NO_POINTS = ODD + TUPLES + TEXTS + [-1, -2, -32, 32, 33, 63, 64, 100, 9999999, -9999999, "tug"]

NO_MOMENTS = ODD + TUPLES + TEXTS + [-1, -2, -99, 100, 101, 999, 9999999, -9999999, "tug"]
# A colour must be one of red, green and white.
NO_COLOURS = ODD + TUPLES + [word for word in TEXTS if word not in ("green", "white")] + [0, 1, "tug", "blue"]
NO_COLUMNS = ODD + TEXTS + [0, 1, "red", ["red"], [], ("red",) * 7, ("white",) * 8, ((),), (("red",),)]
NO_COLUMNS += [(value,) for value in NO_COLOURS]
NO_COLUMNS += [("red", value, "white") for value in NO_COLOURS]
NO_COLUMNS += [("red",) * 5 + (value,) for value in NO_COLOURS]
NO_SIGHTS = ODD + TUPLES + TEXTS + [0, 99, "sight 1 2 red", (1, 2), (1, 2, ("red",), ()), (1, 2, "red"),
                                    [1, 2, ("red",)], (1, 2, ["red"]), ((1, 2, ("red",)),), (1, ("red",), 2),
                                    (("red",), 1, 2), (1, 2, "red", "white"), [(1, 2, ("red",))]]
NO_SIGHTS += [(value, 2, ("red",)) for value in NO_MOMENTS]
NO_SIGHTS += [(1, value, ("red",)) for value in NO_POINTS]
NO_SIGHTS += [(1, 2, value) for value in NO_COLUMNS]

NO_BOATS = ODD + TUPLES + TEXTS + [0, 31, "tug", ["tug", 3], ("tug", [3]), (["tug"], 3), ("boat", 3)]
NO_BOATS += [(kind, 3) for kind in NO_KINDS] + [("tug", point) for point in NO_POINTS]
NO_BOATS += [(3, "tug"), ("tug", "3"), ("tug", 3, None), (("tug", 3),), ("tug", "twin"), (3, 3)]

# What is no list of unlike boats of the harbour, one at least.
NO_LISTS = ODD + TUPLES + TEXTS + [0, "tug 3", ("tug", 3), (("tug", 3),), (("tug", 3), ("red", 4)), {("tug", 3)},
                                   {("tug", 3): 1}, frozenset([("tug", 3)]), iter([("tug", 3)]), [[("tug", 3)]],
                                   [("tug", 3)] * 2, [("tug", 3), ("red", 4), ("tug", 3)], [("tug", 3)] * 999]
NO_LISTS += [[value] for value in NO_BOATS] + [[value, ("tug", 3)] for value in NO_BOATS]
NO_LISTS += [[("tug", 3), ("red", 4), value] for value in NO_BOATS]

# What is no number of looks that may be let, from 0 to 3.
NO_MANY = ODD + TUPLES + TEXTS + [-1, -2, -3, 4, 5, 31, 32, 9999999, -9999999, "2", (2,), [2]]


def name_of(value):
    """How a test calls a value that may be one that can't be shown."""
    return value.__class__.__name__ if isinstance(value, (Loud, Equal)) else repr(value)


def some_fleet(seed):
    """A fleet's tuple, one of many: the same of the same seed."""
    chance = random.Random(seed)
    colours = tuple(NAMES[:chance.randint(1, 6)])
    kinds = []
    for name in NAMES[:chance.randint(1, 6)]:
        lamps = [(chance.choice(colours), chance.randint(0, 31), chance.randint(0, 31))
                 for _ in range(chance.randint(1, 6))]
        kinds.append((name, chance.randint(0, 16), tuple(lamps)))
    return (colours, tuple(kinds))


def some_sights(seed, colours, many):
    """So many sights of these colours, the same of the same seed."""
    chance = random.Random(seed)
    return [(chance.randint(0, 99), chance.randint(0, 31),
             tuple([chance.choice(colours) for _ in range(chance.randint(0, 6))]))
            for _ in range(many)]


def column_by_steps(plain, kind, bearing):
    """A kind's column, told by going from each lamp's first bearing to its last, step by step."""
    told = []
    for name, _, lamps in plain[1]:
        if name == kind:
            for colour, first, last in lamps:
                bearings = [first]
                while bearings[-1] != last:
                    bearings.append(0 if bearings[-1] == 31 else bearings[-1] + 1)
                if bearing in bearings:
                    told.append(colour)
    return tuple(told)


def watch_of(sights, plain=HARBOUR):
    """A watch with these sights."""
    watch = Watch(Fleet(plain))
    for sight in sights:
        watch.put(sight)
    return watch


def boats_of(plain, seed, many):
    """So many boats of a fleet's tuple, in any order."""
    boats = all_boats(Fleet(plain))
    return random.Random(seed).sample(boats, min(many, len(boats)))


def parts_by_steps(plain, boats, side):
    """The boats by the columns that they show to a side, each told by going from bearing to bearing."""
    parts = {}
    for kind, course in boats:
        parts.setdefault(column_by_steps(plain, kind, (side - course) % 32), []).append((kind, course))
    return parts


def told_surely(plain, boats, looks):
    """Whether so many looks tell the boats' kinds surely: all sides are tried."""
    if len(set([kind for kind, _ in boats])) == 1:
        return True
    return looks > 0 and any([
        all([told_surely(plain, part, looks - 1) for part in parts_by_steps(plain, boats, side).values()])
        for side in range(32)
    ])


def points_fleet(*kinds):
    """A fleet's tuple whose kinds have one lamp each, that shows ahead alone."""
    return (("red",), tuple([(kind, 3, (("red", 0, 0),)) for kind in kinds]))

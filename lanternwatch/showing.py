"""Fleets and sights, written as texts that are read as them."""


def row_of(words):
    """A row with these words, numbers among them."""
    return " ".join([str(word) for word in words])


def fleet_rows(fleet):
    """The rows of a fleet's tuple: its colours, then each kind with its lamps."""
    colours, kinds = fleet
    rows = [row_of(["colours", *colours])]
    for kind, turn, lamps in kinds:
        rows.append(row_of(["kind", kind, turn]))
        rows.extend([row_of(["lamp", *lamp]) for lamp in lamps])
    return rows


def shown(fleet, sights):
    """A text of a fleet's tuple and of sights, a row in each line."""
    rows = fleet_rows(fleet)
    rows.extend([row_of(["sight", moment, side, *colours]) for moment, side, colours in sights])
    return "\n".join(rows)

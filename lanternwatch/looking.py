"""Looks that part boats, and plans by which a boat's kind is told surely."""

from lanternwatch.columns import check_point, seen
from lanternwatch.plans import Planner, boats_in_order, by_columns, check_many


def parted(fleet, boats, side):
    """Pairs of a column and the boats that show it to a side, by columns, rising."""
    told = boats_in_order(fleet, boats)
    check_point(side, "side")
    return by_columns(told, {(kind, course): seen(fleet, kind, course, side) for kind, course in told})


def best_plan(fleet, boats, most):
    """A plan of the boats that takes as few looks as any, None where that are more than most."""
    told = boats_in_order(fleet, boats)
    check_many(most)
    return Planner(fleet, told).plan(told, most)


def looks_of(plan):
    """How many looks a plan takes."""
    looks = 0
    plans = behind_a_look([plan])
    while plans:
        looks += 1
        plans = behind_a_look(plans)
    return looks


def behind_a_look(plans):
    """The plans of all branches of the plans that begin with a look."""
    return [branch for plan in plans if plan[0] == "look" for _, branch in plan[2]]


def way_of(fleet, plan, boat):
    """The looks (SIDE, COLUMN) by which a plan comes to a kind for a boat, and that kind."""
    kind, course = boat
    looks = []
    while plan[0] == "look":
        _, side, branches = plan
        shown_there = seen(fleet, kind, course, side)
        looks.append((side, shown_there))
        plan = dict(branches)[shown_there]
    return (looks, plan[1])


def told_by(fleet, plan, boat):
    """The kind that a plan comes to for one of its boats."""
    return way_of(fleet, plan, boat)[1]

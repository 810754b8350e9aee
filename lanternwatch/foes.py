"""A foe: it answers looks so that the kind can't be told, as long as no plan with so many looks is there."""

from lanternwatch.columns import check_point
from lanternwatch.errors import BadMany, NoFoe
from lanternwatch.plans import Planner, boats_in_order, check_many


class Foe:
    """Answers so many looks; behind the last of them boats of unlike kinds are left."""

    def __init__(self, fleet, boats, most):
        self._left = boats_in_order(fleet, boats)
        check_many(most)
        self._planner = Planner(fleet, self._left)
        if self._planner.plan(self._left, most) is not None:
            raise NoFoe("a plan tells the kinds of these boats by so many looks")
        self._looks = most
        self._answers = []

    def answer(self, side):
        """The column that the foe shows to a side."""
        check_point(side, "side")
        if self._looks == 0:
            raise BadMany("the foe has answered its last look")
        colours, boats = self._lasting(side)
        self._left = boats
        self._looks = self._looks - 1
        self._answers.append((side, colours))
        return colours

    def answers(self):
        """Pairs of a side and the column that was shown there, in the order in which they were asked."""
        return list(self._answers)

    def left(self):
        """The boats that show all columns that were answered, in the fleet's order."""
        return list(self._left)

    def _lasting(self, side):
        # Were there a plan for the boats of each column, a look to this side would begin one for all.
        looks = self._looks - 1
        parts = self._planner.parts(self._left, side)
        return [part for part in parts if self._planner.plan(part[1], looks) is None][0]

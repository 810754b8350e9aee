"""What is refused, each in its own way."""


class LightError(ValueError):
    """Whatever the program refuses."""


class BadText(LightError):
    """A text that is none; line is the number of the line that tells it."""

    def __init__(self, line=0):
        super().__init__(f"no text of a fleet and sights, told by line {line}")
        self.line = line


class NoKind(LightError):
    """The name of no kind."""


class BadPoint(LightError):
    """No point of the compass."""


class BadSight(LightError):
    """No sight of the fleet's colours."""


class Full(LightError):
    """A sight more than a watch takes."""


class BadMoment(LightError):
    """No moment."""


class BadBoats(LightError):
    """No boats of the fleet."""


class BadMany(LightError):
    """No number of looks that may be taken."""


class NoFoe(LightError):
    """No foe lasts so many looks."""

"""The refusals: each one is a class straight under PlanError."""


class PlanError(ValueError):
    """Any refusal."""


class NoNet(PlanError):
    """It is no net."""


class NoWall(PlanError):
    """There is no such wall, or none can stand there."""


class TooMany(PlanError):
    """There would be more than a plan may have."""


class NoCorner(PlanError):
    """There is no such corner."""


class NoAxis(PlanError):
    """It is no axis."""


class NoMove(PlanError):
    """It can't be moved there."""


class NoPlan(PlanError):
    """It is no plan."""


class NoName(PlanError):
    """There is nothing of this kind by this name."""


class NoText(PlanError):
    """It is no plan's text."""


class Held(PlanError):
    """The hold of this name wouldn't hold."""

    def __init__(self, name):
        self.name = name


class NoHold(PlanError):
    """It isn't made as a hold (the name is None)."""

    def __init__(self, name):
        self.name = name


class NoOpening(PlanError):
    """The opening of this name wouldn't stand, or (the name is None) it isn't made as one."""

    def __init__(self, name):
        self.name = name


class NoThing(PlanError):
    """The thing of this name wouldn't fit, or (the name is None) it isn't made as one."""

    def __init__(self, name):
        self.name = name

"""The refusals: one class for each, all under PressError."""


class PressError(ValueError):
    pass


class NoFace(PressError):
    pass


class NoBook(PressError):
    pass


class NoRule(PressError):
    pass


class NoSheet(PressError):
    pass


class NoDrawing(PressError):
    pass


class NoNode(PressError):
    pass


class NoPart(PressError):
    pass


class NoLeaf(PressError):
    pass

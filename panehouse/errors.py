"""The refusals, a class for each."""


class PaneError(ValueError):
    pass


class NoShare(PaneError):
    pass


class NoBox(PaneError):
    pass


class NoText(PaneError):
    pass


class NoRule(PaneError):
    pass


class NoName(PaneError):
    pass


class NoPlace(PaneError):
    pass


class NoPage(PaneError):
    pass


class NoChange(PaneError):
    pass


class NoUndo(PaneError):
    pass


class NoRow(PaneError):
    pass

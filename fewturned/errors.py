"""The refusals: one class for each, so that a caller can tell them apart or take all of them at once."""


class TurnError(ValueError):
    pass


class NoWeb(TurnError):
    pass


class NoRow(TurnError):
    pass


class NoNumber(TurnError):
    pass


class NoArrows(TurnError):
    pass


class TooBig(TurnError):
    pass


class NoText(TurnError):
    pass

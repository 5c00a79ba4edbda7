"""The refusals, one class for each sort."""


class StuckError(ValueError):
    pass


class NoCircuit(StuckError):
    pass


class NotTold(StuckError):
    pass


class TooGreat(StuckError):
    pass


class NoLine(StuckError):
    pass


class NoWire(StuckError):
    pass

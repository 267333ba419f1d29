"""The refusals of the program.

MapError is any of them. NoText refuses a text that is no map's writing, NoFit what does not fit together,
NoTurn a map that has no turned one.
"""


class MapError(ValueError):
    pass


class NoText(MapError):
    pass


class NoFit(MapError):
    pass


class NoTurn(MapError):
    pass

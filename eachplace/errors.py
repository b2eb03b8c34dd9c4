"""The refusals. Each kind stands directly under EachError, so that none is caught as another one."""


class EachError(ValueError):
    """Any refusal of this package."""


class NoText(EachError):
    """What was handed in is not a text of the thing that was to be read."""


class TooWide(EachError):
    """More places or atoms would have to be looked at than are promised."""


class NoRow(EachError):
    """What was handed in is not a row that a desk knows."""

"""The refusals of the program."""


class CaveError(ValueError):
    """Any refusal."""


class NoKind(CaveError):
    """A kind of passage, or a letter, that there isn't."""


class NoWay(CaveError):
    """A text that writes no way."""


class NoMark(CaveError):
    """A mark that there isn't."""


class NoEntry(CaveError):
    """A number that no standing entry has."""


class NoHold(CaveError):
    """A number that no hold has."""


class NoChamber(CaveError):
    """A chamber that there isn't."""


class NoChart(CaveError):
    """A table or a text that tells no chart."""


class NoCave(CaveError):
    """Tables or places that tell no cave."""


class NoHome(CaveError):
    """A way that isn't home, or a word over home rows that there aren't."""


class Barred(CaveError):
    """An entry that no cave would fit."""


class Full(CaveError):
    """A book without room for one more."""

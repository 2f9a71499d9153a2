"""The refusals of the program, one class for each."""


class TurnError(ValueError):
    """Any refusal."""


class NoText(TurnError):
    """What is to be read is no text of the wanted form."""


class NoWood(TurnError):
    """A text in the form of a wood tells no wood."""


class NoTurning(TurnError):
    """A text in the form of a turning tells no turning."""


class NoTree(TurnError):
    """A tree is not of the wood or the kind that is asked for."""


class TooGreat(TurnError):
    """An answer would be greater than its bounds."""


class OtherWood(TurnError):
    """Two turnings are not of the same wood."""


class Strays(TurnError):
    """A turning has outcomes outside of the next one's wood."""


class NoRow(TurnError):
    """A desk is told what is none of its rows."""


class NoName(TurnError):
    """A desk is told what is no name, or a name by which the needed thing does not stand."""

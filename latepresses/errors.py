"""The errors of the program: one class for each kind of failure."""


class GameError(ValueError):
    """Whatever the program finds wrong; `value` is what was wrong."""

    def __init__(self, value):
        ValueError.__init__(self, repr(value))
        self.value = value


class InvalidLevel(GameError):
    """No level."""


class InvalidKind(GameError):
    """No kind, or a trait that is none."""


class InvalidGame(GameError):
    """No right game."""


class InvalidWorld(GameError):
    """No right world."""


class InvalidThing(GameError):
    """No thing of the game."""


class InvalidPress(GameError):
    """No press, or no presses of a tick."""


class InvalidRows(GameError):
    """Rows of presses of an unfit number."""


class InvalidNumber(GameError):
    """A number outside its range."""


class InvalidSlot(GameError):
    """No slot, or one in which no thing stands."""


class InvalidCell(GameError):
    """A cell that there is not."""


class InvalidTrace(GameError):
    """No trace of its presses."""


class InvalidMenu(GameError):
    """No menu of presses."""


class InvalidPlan(GameError):
    """No plan of kept worlds."""


class InvalidPair(GameError):
    """Two numbers that do not go together."""


class InvalidScript(GameError):
    """No script, or no expression."""


class InvalidCode(GameError):
    """Code that no script can have."""


class InvalidKnown(GameError):
    """Nothing that can be known of a house."""


class InvalidTick(GameError):
    """A tick that there is not."""


class InvalidHouse(GameError):
    """A house that there is not."""


class InvalidLetter(GameError):
    """No letter."""


class InvalidPlace(GameError):
    """A place of the bag that there is not."""


class InvalidPaper(GameError):
    """No paper of a play."""


class InvalidName(GameError):
    """No name."""


class UnknownName(GameError):
    """A name that nothing has."""


class WrongKind(GameError):
    """A name of something of another kind."""


class NothingToUndo(GameError):
    """No call that could be taken back."""


class Unreadable(GameError):
    """A text that nothing shows."""


class Unorderly(GameError):
    """A text that is no order."""


class Clash(GameError):
    """A press that is known otherwise."""


class Left(GameError):
    """A house that has left already."""

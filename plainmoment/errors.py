"""The errors of the package: each is told the value that was handed in, or where the fault is."""


class MomentError(ValueError):
    """What was handed in is not what is asked for; told is the value or the place of the fault."""

    def __init__(self, told):
        self.told = told


class NoRow(MomentError):
    """What was handed in is no row, or none of the kind that is asked for."""


class NoProgram(MomentError):
    """What was handed in is no program, or a procedure of it is none."""


class NoProcedure(MomentError):
    """What was handed in is no name of a procedure of the program."""


class NoSpot(MomentError):
    """What was handed in is no spot of the program."""


class NoInputs(MomentError):
    """What was handed in is no inputs."""


class NoMoment(MomentError):
    """What was handed in is no moment that is asked for."""


class NoCell(MomentError):
    """What was handed in is no cell that stands."""


class NoValue(MomentError):
    """What was handed in is no value."""


class NoState(MomentError):
    """What was handed in is no state that is asked for."""


class NoRun(MomentError):
    """What was handed in is no run that is asked for."""


class NoChanges(MomentError):
    """What was handed in is no changes, or a change of them is none."""


class NoStretch(MomentError):
    """What was handed in is no stretch of the program."""


class NoMade(MomentError):
    """What was handed in is no made stretch or made code that is asked for."""


class NoStop(MomentError):
    """What was handed in is no stop of the made stretch."""


class NoVariable(MomentError):
    """What was handed in is no variable that is asked for, or a variable is lacking."""


class NoTape(MomentError):
    """What was handed in is no keep or tape that leads there."""


class NoCount(MomentError):
    """What was handed in is no number, or no lot, that is asked for."""


class NoCondition(MomentError):
    """What was handed in is no condition of the program."""


class NoEdit(MomentError):
    """What was handed in is no edit that is asked for."""


class NoLanding(MomentError):
    """What was handed in has no landing."""


class NoLooks(MomentError):
    """What was handed in is no looks."""


class NoMenu(MomentError):
    """What was handed in is no menu."""


class NoHand(MomentError):
    """What was handed in is no hand of the session."""


class NoCommand(MomentError):
    """What was handed in is no command."""


class NoRoad(MomentError):
    """What was handed in is no road, place or journey."""


class NoWish(MomentError):
    """What was handed in is no wish."""


class NoStore(MomentError):
    """What was handed in is no session that can be written."""


class NothingBack(MomentError):
    """There is nothing that could be taken back or done again."""


class BadText(MomentError):
    """A row of a text is wrong."""


class NoLine(MomentError):
    """What was handed in is no line."""


class NoTerm(MomentError):
    """What was handed in is no term."""


class NoLabel(MomentError):
    """What was handed in is no label of the stretch."""


class NoValues(MomentError):
    """What was handed in is no dict from variables to values."""


class NoPlaces(MomentError):
    """What was handed in is no put."""


class NoSetting(MomentError):
    """What was handed in is no setting."""


class TooMany(OverflowError):
    """There is more than the bound, most, lets be."""

    def __init__(self, most):
        self.most = most

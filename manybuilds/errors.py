"""The errors of the package, all of them below BuildError."""


class BuildError(ValueError):
    """Any refusal of this package."""


class BadAct(BuildError):
    """What was passed is no act."""


class BadChosen(BuildError):
    """What was passed is no tuple of different let settings."""


class BadCondition(BuildError):
    """What was passed is no condition over the switches of the house."""


class BadCosts(BuildError):
    """What was passed is no table of costs."""


class BadCube(BuildError):
    """What was passed is no cube that is asked for."""


class BadEdit(BuildError):
    """What was passed is no edit."""


class BadExpression(BuildError):
    """What was passed is no expression."""


class BadFork(BuildError):
    """What was passed is no fork of the text."""


class BadForm(BuildError):
    """What was passed is no form of rows."""


class BadHouse(BuildError):
    """What was passed is no house."""


class BadIndex(BuildError):
    """What was passed is no index that is asked for."""


class BadInterface(BuildError):
    """What was passed is no interface."""


class BadInterfaces(BuildError):
    """What was passed is no tuple of interfaces."""


class BadLine(BuildError):
    """What was passed is no line of the house."""


class BadLot(BuildError):
    """What was passed is no lot that is asked for."""


class BadLots(BuildError):
    """What was passed is no tuple of lots."""


class BadMeasure(BuildError):
    """What was passed is no measure."""


class BadMost(BuildError):
    """What was passed is no greatest number that is asked for."""


class BadMove(BuildError):
    """What was passed is no move of the line."""


class BadNames(BuildError):
    """What was passed is no tuple of names that is asked for."""


class BadNumber(BuildError):
    """What was passed is no number that is asked for."""


class BadNumbers(BuildError):
    """What was passed is no tuple of numbers that is asked for."""


class BadPart(BuildError):
    """What was passed is no part."""


class BadParts(BuildError):
    """What was passed is no tuple of parts."""


class BadPatch(BuildError):
    """What was passed is no patch."""


class BadPath(BuildError):
    """What was passed leads to no node of the line."""


class BadRow(BuildError):
    """What was passed is no row of the form."""


class BadRows(BuildError):
    """The rows cannot go on at the index `at`."""

    def __init__(self, at):
        super().__init__("the rows cannot go on")
        self.at = at


class BadSetting(BuildError):
    """What was passed is no setting that is asked for."""


class BadStep(BuildError):
    """What was passed is no step."""


class BadSwitch(BuildError):
    """What was passed is no switch of the house."""


class BadTable(BuildError):
    """What was passed is no table."""


class BadTerm(BuildError):
    """What was passed is no term of the line."""


class BadText(BuildError):
    """What was passed is no text that is asked for."""


class BadTold(BuildError):
    """What was passed does not tell builds of let settings."""


class Caught(BuildError):
    """A name would be caught at the path `path`."""

    def __init__(self, path):
        super().__init__("a name would be caught")
        self.path = path


class Clash(BuildError):
    """Two patches clash at the path `path`."""

    def __init__(self, path):
        super().__init__("two patches clash")
        self.path = path


class Clashing(BuildError):
    """The builds for the setting `setting` cannot be merged."""

    def __init__(self, setting):
        super().__init__("the builds cannot be merged")
        self.setting = setting


class LastSwitch(BuildError):
    """The house has no other switch."""


class Mixed(BuildError):
    """Parts would mix up the name `x`."""

    def __init__(self, x):
        super().__init__("a name would be mixed up")
        self.x = x


class NotAlike(BuildError):
    """The lines are not alike."""


class NotEnough(BuildError):
    """The lot of switches is not enough."""


class NotGiven(BuildError):
    """The name is not given."""


class NotRight(BuildError):
    """The parts are not right in the setting."""


class NotTold(BuildError):
    """The setting `setting` is not told."""

    def __init__(self, setting):
        super().__init__("a setting is not told")
        self.setting = setting


class NothingDone(BuildError):
    """There is no deed to take back."""


class NothingUndone(BuildError):
    """There is no undone deed to do again."""


class TooMany(BuildError):
    """There are more than `most`."""

    def __init__(self, most):
        super().__init__("there are too many")
        self.most = most


class Unfit(BuildError):
    """A patch does not fit."""

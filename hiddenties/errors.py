"""The errors of the package: all of them stand under TieError, and it under ValueError."""


class TieError(ValueError):
    """What a function of this package was passed is not as it has to be."""


class InvalidPattern(TieError):
    def __init__(self, given):
        TieError.__init__(self, "no pattern")
        self.given = given


class InvalidModel(TieError):
    def __init__(self, given):
        TieError.__init__(self, "no model")
        self.given = given


class InvalidCourses(TieError):
    def __init__(self, given):
        TieError.__init__(self, "no courses for the model")
        self.given = given


class InvalidChoice(TieError):
    def __init__(self, given):
        TieError.__init__(self, "no choice of the pattern")
        self.given = given


class InvalidOffsets(TieError):
    def __init__(self, given):
        TieError.__init__(self, "no offsets of the pattern")
        self.given = given


class InvalidRow(TieError):
    def __init__(self, given):
        TieError.__init__(self, "no row for the model")
        self.given = given


class InvalidMotion(TieError):
    def __init__(self, given):
        TieError.__init__(self, "no motion of the model")
        self.given = given


class InvalidPlace(TieError):
    def __init__(self, given):
        TieError.__init__(self, "no place of the model")
        self.given = given


class InvalidNumber(TieError):
    def __init__(self, given):
        TieError.__init__(self, "no number that may be told here")
        self.given = given


class InvalidIndex(TieError):
    def __init__(self, given):
        TieError.__init__(self, "no index")
        self.given = given


class InvalidPiece(TieError):
    def __init__(self, given):
        TieError.__init__(self, "no piece")
        self.given = given


class InvalidJoints(TieError):
    def __init__(self, given):
        TieError.__init__(self, "no joints of the pieces")
        self.given = given


class InvalidName(TieError):
    def __init__(self, given):
        TieError.__init__(self, "no name of a model")
        self.given = given


class InvalidWish(TieError):
    def __init__(self, given):
        TieError.__init__(self, "no wish")
        self.given = given


class InvalidPhrase(TieError):
    def __init__(self, given):
        TieError.__init__(self, "no phrase")
        self.given = given


class NotAWorkshop(TieError):
    def __init__(self, given):
        TieError.__init__(self, "no workshop")
        self.given = given


class UnknownName(TieError):
    def __init__(self, given):
        TieError.__init__(self, "no model has this name")
        self.given = given


class InvalidLot(TieError):
    def __init__(self, index):
        TieError.__init__(self, "no lot of the model")
        self.index = index


class InvalidPlaces(TieError):
    def __init__(self, index):
        TieError.__init__(self, "no unlike places of the model")
        self.index = index


class InvalidNumbers(TieError):
    def __init__(self, index):
        TieError.__init__(self, "no fractions, one for each place")
        self.index = index


class InvalidOrders(TieError):
    def __init__(self, index):
        TieError.__init__(self, "no orders, one for each unknown")
        self.index = index


class InvalidForcings(TieError):
    def __init__(self, index):
        TieError.__init__(self, "no forcings of the model")
        self.index = index


class InvalidUnknowns(TieError):
    def __init__(self, index):
        TieError.__init__(self, "no ascending unknowns")
        self.index = index


class InvalidLefts(TieError):
    def __init__(self, index):
        TieError.__init__(self, "not unknowns that may be left, stage by stage")
        self.index = index


class InvalidPieces(TieError):
    def __init__(self, index):
        TieError.__init__(self, "no pieces")
        self.index = index


class InUse(TieError):
    def __init__(self, index):
        TieError.__init__(self, "a wish names the model")
        self.index = index


class Broken(TieError):
    def __init__(self, index):
        TieError.__init__(self, "a wish would not hold")
        self.index = index


class NoChoice(TieError):
    """The pattern has no choice."""


class NotSolvable(TieError):
    """The model is not solvable."""


class NotSound(TieError):
    """The model is not sound."""


class NotAState(TieError):
    """The lot is no state lot."""


class NotSquare(TieError):
    """What is joined has not as many equations as unknowns."""


class UnlikeSizes(TieError):
    """The models have unlike numbers of unknowns."""


class NothingToUndo(TieError):
    """No change can be taken back."""

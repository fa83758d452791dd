"""The errors: three base classes, and below each one its classes with what they tell."""


class WrongValue(ValueError):
    """A value that is not of the kind that is asked for."""


class InvalidText(WrongValue):
    def __init__(self, given):
        self.given = given


class InvalidName(WrongValue):
    def __init__(self, given):
        self.given = given


class InvalidColumn(WrongValue):
    def __init__(self, given):
        self.given = given


class InvalidStretch(WrongValue):
    def __init__(self, given):
        self.given = given


class InvalidMember(WrongValue):
    def __init__(self, given):
        self.given = given


class InvalidMix(WrongValue):
    def __init__(self, given):
        self.given = given


class InvalidWeights(WrongValue):
    def __init__(self, given):
        self.given = given


class InvalidTarget(WrongValue):
    def __init__(self, given):
        self.given = given


class InvalidBounds(WrongValue):
    def __init__(self, given):
        self.given = given


class InvalidPrices(WrongValue):
    def __init__(self, given):
        self.given = given


class InvalidSigns(WrongValue):
    def __init__(self, given):
        self.given = given


class InvalidAnswer(WrongValue):
    def __init__(self, given):
        self.given = given


class InvalidPoint(WrongValue):
    def __init__(self, given):
        self.given = given


class InvalidPoints(WrongValue):
    def __init__(self, given):
        self.given = given


class InvalidPlaces(WrongValue):
    def __init__(self, given):
        self.given = given


class InvalidTie(WrongValue):
    def __init__(self, given):
        self.given = given


class InvalidWay(WrongValue):
    def __init__(self, given):
        self.given = given


class InvalidPairing(WrongValue):
    def __init__(self, given):
        self.given = given


class InvalidTree(WrongValue):
    def __init__(self, given):
        self.given = given


class InvalidCut(WrongValue):
    def __init__(self, given):
        self.given = given


class InvalidNumber(WrongValue):
    def __init__(self, given):
        self.given = given


class InvalidSeating(WrongValue):
    def __init__(self, given):
        self.given = given


class InvalidWord(WrongValue):
    def __init__(self, given):
        self.given = given


class InvalidWish(WrongValue):
    def __init__(self, given):
        self.given = given


class InvalidCommand(WrongValue):
    def __init__(self, given):
        self.given = given


class NotATable(WrongValue):
    def __init__(self, given):
        self.given = given


class NotTimes(WrongValue):
    def __init__(self, given):
        self.given = given


class NotAWeb(WrongValue):
    def __init__(self, given):
        self.given = given


class NotCounts(WrongValue):
    def __init__(self, given):
        self.given = given


class NotAThing(WrongValue):
    def __init__(self, given):
        self.given = given


class InvalidColumns(WrongValue):
    def __init__(self, index):
        self.index = index


class InvalidRows(WrongValue):
    def __init__(self, index):
        self.index = index


class InvalidFacts(WrongValue):
    def __init__(self, index):
        self.index = index


class InvalidTies(WrongValue):
    def __init__(self, index):
        self.index = index


class InvalidCounts(WrongValue):
    def __init__(self, index):
        self.index = index


class InvalidWishes(WrongValue):
    def __init__(self, index):
        self.index = index


class InvalidLog(WrongValue):
    def __init__(self, index):
        self.index = index


class WrongName(LookupError):
    """A name that stands for nothing here, or that is still asked for."""


class UnknownName(WrongName):
    def __init__(self, given):
        self.given = given


class UnknownPlace(WrongName):
    def __init__(self, given):
        self.given = given


class InUse(WrongName):
    def __init__(self, index):
        self.index = index


class NotPossible(ArithmeticError):
    """What cannot be done, or is not there, with values of the right kinds."""


class TooFew(NotPossible):
    def __init__(self, given):
        self.given = given


class TooMany(NotPossible):
    def __init__(self, given):
        self.given = given


class TooGreat(NotPossible):
    def __init__(self, given):
        self.given = given


class NotWhole(NotPossible):
    def __init__(self, given):
        self.given = given


class NotJoined(NotPossible):
    def __init__(self, given):
        self.given = given


class Narrow(NotPossible):
    def __init__(self, given):
        self.given = given


class NotServed(NotPossible):
    """In some member no mix hits the target."""


class NoAnswer(NotPossible):
    """There is no such answer."""


class NoTimes(NotPossible):
    """There is no schedule."""


class NothingToUndo(NotPossible):
    """No change is left that could be taken back."""


class Broken(NotPossible):
    def __init__(self, index):
        self.index = index

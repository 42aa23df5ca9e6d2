"""The errors of the package, in two families."""


class FrameError(ValueError):
    """The family of the errors about things that are not as described."""


class StateError(RuntimeError):
    """The family of the errors about what an object cannot do at present."""


class BadRatio(FrameError):
    """What was given is no ratio, or not one that may stand there."""

    def __init__(self, given):
        super().__init__("this is no ratio that may stand here")
        self.given = given


class BadTable(FrameError):
    """A part of a table is not as described."""

    def __init__(self, part):
        super().__init__("a part of the table is not as described")
        self.part = part


class BadWord(FrameError):
    """What was given is no word for the table."""

    def __init__(self, given):
        super().__init__("this is no word for the table")
        self.given = given


class BadBurst(FrameError):
    """What was given is no burst."""

    def __init__(self, given):
        super().__init__("this is no burst")
        self.given = given


class BadReceiver(FrameError):
    """The pair at a place of a receiver, or the whole, is not as described."""

    def __init__(self, place):
        super().__init__("the receiver is not as described")
        self.place = place


class BadNumber(FrameError):
    """What was given is no integer that may stand there."""

    def __init__(self, given):
        super().__init__("this is no number that may stand here")
        self.given = given


class BadPaper(FrameError):
    """A part of a paper does not hold."""

    def __init__(self, part):
        super().__init__("a part of the paper does not hold")
        self.part = part


class BadStyle(FrameError):
    """What was given is no style."""

    def __init__(self, given):
        super().__init__("this is no style")
        self.given = given


class BadRow(FrameError):
    """A moment of a row, or the whole, is not as described."""

    def __init__(self, moment):
        super().__init__("the row is not as described")
        self.moment = moment


class BadText(FrameError):
    """A word of a text cannot stand where it stands, or is missing."""

    def __init__(self, word):
        super().__init__("a word of the text cannot stand there, or is missing")
        self.word = word


class NothingToUndo(StateError):
    """There are not as many changes as are to be taken back."""

    def __init__(self, count):
        super().__init__("there are not as many changes to take back")
        self.count = count

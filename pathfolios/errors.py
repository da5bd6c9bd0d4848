"""The refusals: errors that keep the very things they are made of, and never look at them."""


class FolioError(ValueError):
    """The base of refusals of what can't be done as it was asked."""


class LackError(LookupError):
    """The base of refusals of what isn't there."""


class NoPaper(FolioError):
    """A checker doesn't let this thing by."""

    def __init__(self, word, at):
        self.word = word
        self.at = at


class NoChange(FolioError):
    """A CHANGE or an UNDOING can't be done."""

    def __init__(self, word, at):
        self.word = word
        self.at = at


class NoKey(FolioError):
    """A unique INDEX would have one KEY of two ids."""

    def __init__(self, name, holder):
        self.name = name
        self.holder = holder


class NoLead(FolioError):
    """A DOCUMENT can't be LED from its edition."""

    def __init__(self, holder, edition):
        self.holder = holder
        self.edition = edition


class NoTurn(FolioError):
    """It isn't the turn of a house, a branch or an asker to do this."""

    def __init__(self, word):
        self.word = word


class Behind(FolioError):
    """A house hasn't done so much as the asker knows of."""

    def __init__(self, mark):
        self.mark = mark


class NoText(FolioError):
    """A text writes nothing of the kind asked for."""

    def __init__(self, row, word):
        self.row = row
        self.word = word


class NoRow(FolioError):
    """A desk knows no such row."""

    def __init__(self, row):
        self.row = row


class NoId(LackError):
    """There is no document of this id."""

    def __init__(self, holder):
        self.holder = holder


class NoMark(LackError):
    """There is no such MARK."""

    def __init__(self, mark):
        self.mark = mark


class NoName(LackError):
    """There is nothing of this name."""

    def __init__(self, name):
        self.name = name


class NoHouse(LackError):
    """There is no house of this number."""

    def __init__(self, house):
        self.house = house


class NoStep(LackError):
    """There is no deed of this number to be undone."""

    def __init__(self, number):
        self.number = number

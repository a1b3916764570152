"""The errors of the package."""


class ShareError(ValueError):
    """What all errors of the package are."""


class BadFolders(ShareError):
    """No folders can have these names: index is that of the first wrong one."""

    def __init__(self, index):
        self.index = index


class BadName(ShareError):
    """This is no name."""

    def __init__(self, name):
        self.name = name


class BadLot(ShareError):
    """This is no lot of the folders, or it stood before."""

    def __init__(self, lot):
        self.lot = lot


class BadSize(ShareError):
    """This is no size, or it is too much."""

    def __init__(self, size):
        self.size = size


class BadNumber(ShareError):
    """This is no integer that can stand here."""

    def __init__(self, number):
        self.number = number


class NoFolder(ShareError):
    """This is none of the folders."""

    def __init__(self, name):
        self.name = name


class Taken(ShareError):
    """A folder has this name already."""

    def __init__(self, name):
        self.name = name


class UnlikeFolders(ShareError):
    """Things about unlike folders do not go together."""


class Lacking(ShareError):
    """Nothing is told of this lot."""

    def __init__(self, lot):
        self.lot = lot


class NotStore(ShareError):
    """No store has the told sizes: this lot would have less than nothing."""

    def __init__(self, lot):
        self.lot = lot


class BadTelling(ShareError):
    """Nothing can be told like this."""

    def __init__(self, ends):
        self.ends = ends


class NotTold(ShareError):
    """The answer to this question is not told."""

    def __init__(self, question):
        self.question = question


class Wrong(ShareError):
    """No store fits what is told, as the weights show."""

    def __init__(self, weights):
        self.weights = weights


class NoMoment(ShareError):
    """This is no moment of the history."""

    def __init__(self, moment):
        self.moment = moment


class BadDeed(ShareError):
    """This is no deed."""

    def __init__(self, deed):
        self.deed = deed


class NoDeed(ShareError):
    """There is no deed to take back, or to do again."""


class BadText(ShareError):
    """No text begins with the lines up to this one."""

    def __init__(self, line):
        self.line = line


class Held(ShareError):
    """A question is held under this name already."""

    def __init__(self, name):
        self.name = name


class NotHeld(ShareError):
    """No question is held under this name."""

    def __init__(self, name):
        self.name = name

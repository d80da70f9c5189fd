"""All errors of the package."""


class ProbeError(ValueError):
    """The base class of all errors of the package."""


class BadSize(ProbeError):
    """A value that is no size."""


class BadNumber(ProbeError):
    """A value that is no slot, or no step, where one is needed."""


class BadKey(ProbeError):
    """A value that is no key of the book."""


class BadRule(ProbeError):
    """A value that is no rule of the kind that is needed."""


class BadFamily(ProbeError):
    """A value that is no family of tries."""


class BadSlots(ProbeError):
    """A value that is no ascending tuple of slots."""


class NotThere(ProbeError):
    """The key does not stand in the table."""


class AlreadyThere(ProbeError):
    """The key stands in the table already."""


class NotRight(ProbeError):
    """A key in the table is not found."""


class NotClean(ProbeError):
    """The table has marks."""


class Full(ProbeError):
    """All slots of the table have keys."""


class NotText(ProbeError):
    """A value that is no string."""


class InvalidText(ProbeError):
    """A string that is no text of the kind that is needed."""


class NothingToUndo(ProbeError):
    """There is no line to take back."""


class BadBook(ProbeError):
    """A value that is no book; index is that of its first wrong item, or None."""

    def __init__(self, index):
        super().__init__("no book")
        self.index = index


class BadTable(ProbeError):
    """A value that is no table for the book; index is that of its first wrong item, or None."""

    def __init__(self, index):
        super().__init__("no table for the book")
        self.index = index

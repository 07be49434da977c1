"""The refusals: one class for each, all straight under RoomError."""


class RoomError(ValueError):
    """Any refusal."""


class NoPrime(RoomError):
    """The number is no prime from 2 to 9973."""


class NoOver(RoomError):
    """Nought stands below, or is to be turned over."""


class NoTerm(RoomError):
    """There is no such term."""


class NoOrder(RoomError):
    """There is no such order, or it does not take the unknowns out."""


class NoRing(RoomError):
    """There is no such ring."""


class NoLead(RoomError):
    """Nought has no first term."""


class NoText(RoomError):
    """The text is not that of a polynomial."""


class NoBase(RoomError):
    """The row is no base."""


class NoBox(RoomError):
    """The numbers are no box."""


class Open(RoomError):
    """The row is not closed in the box."""


class Endless(RoomError):
    """There are endlessly many."""


class NoLine(RoomError):
    """The desk does not know such a line; the value line is that line."""

    def __init__(self, line):
        RoomError.__init__(self, line)
        self.line = line

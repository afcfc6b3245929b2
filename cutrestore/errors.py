"""Every refusal of the program, each straight under NetError."""


class NetError(ValueError):
    """Any refusal."""


class BadMachine(NetError):
    """A modulus, numbers, a row or deeds that make no machine."""


class BadDeed(NetError):
    """The deed with the number `at` is none."""

    def __init__(self, at):
        self.at = at


class NoText(NetError):
    """What is read is not just such a text."""


class BadNet(NetError):
    """Machines, ways or first letters that make no net."""


class NoLetter(NetError):
    """The pick with the number `at` names no letter that is there."""

    def __init__(self, at):
        self.at = at


class NotFirst(NetError):
    """The pick with the number `at` names a letter with others ahead of it."""

    def __init__(self, at):
        self.at = at


class NoCount(NetError):
    """A count, or a cut of counts, that there is not."""


class NoEvent(NetError):
    """An event that there is not."""


class Orphaned(NetError):
    """A cut that could not have been: `letter` is its least orphan."""

    def __init__(self, letter):
        self.letter = letter


class TooMany(NetError):
    """More cuts than are told."""


class NoLine(NetError):
    """Points without a line: `falls`, and the orphan `letter` behind them."""

    def __init__(self, falls, letter):
        # The list that is handed in stays the asker's own.
        self.falls = list(falls)
        self.letter = letter


class NoMachine(NetError):
    """A machine that there is not."""


class NotRow(NetError):
    """The way with the number `way` is a heap."""

    def __init__(self, way):
        self.way = way


class Busy(NetError):
    """A cut is in hand already."""


class NotReached(NetError):
    """No ways lead to the machine with the number `machine`."""

    def __init__(self, machine):
        self.machine = machine


class NoMark(NetError):
    """No mark lies on that way."""


class NoRow(NetError):
    """A row that the desk does not know."""


class NoName(NetError):
    """A name that is none, or by which nothing is kept."""


class NoDeed(NetError):
    """What a way of keeping does not know."""

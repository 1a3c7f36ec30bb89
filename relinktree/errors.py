"""The errors of the package; their fields hold the values that they are created with."""


class RelinkTreeError(ValueError):
    """The base class for invalid values."""


class InvalidName(RelinkTreeError):
    """The value is no host name, or not one that may stand there."""

    def __init__(self, value):
        self.value = value


class InvalidWord(RelinkTreeError):
    """The value is no word."""

    def __init__(self, value):
        self.value = value


class InvalidTree(RelinkTreeError):
    """The hosts and links are no tree; the reason says which part is wrong, the value is that part."""

    def __init__(self, reason, value):
        self.reason = reason
        self.value = value


class InvalidRelink(RelinkTreeError):
    """The value is no relink, or does not fit."""

    def __init__(self, value):
        self.value = value


class InvalidItem(RelinkTreeError):
    """The value is no item."""

    def __init__(self, value):
        self.value = value


class InvalidStep(RelinkTreeError):
    """The host never receives a control item of this kind."""

    def __init__(self, host, kind):
        self.host = host
        self.kind = kind


class InvalidEvent(RelinkTreeError):
    """The value is no event."""

    def __init__(self, value):
        self.value = value


class InvalidChoice(RelinkTreeError):
    """The value is no choice or limit of a run."""

    def __init__(self, value):
        self.value = value


class InvalidScript(RelinkTreeError):
    """The value is no script, or no part of one."""

    def __init__(self, value):
        self.value = value


class InvalidPlan(RelinkTreeError):
    """The relink at this index is wrong; None if there is no list of relinks at all."""

    def __init__(self, index):
        self.index = index


class InvalidText(RelinkTreeError):
    """The value is no written form."""

    def __init__(self, value):
        self.value = value


class InvalidLine(RelinkTreeError):
    """The line with this number is wrong; 0 if the value is no text."""

    def __init__(self, line):
        self.line = line


class InvalidCommand(RelinkTreeError):
    """The value is no command."""

    def __init__(self, value):
        self.value = value


class UnknownHost(LookupError):
    """There is no such host."""

    def __init__(self, host):
        self.host = host


class EmptyChannel(LookupError):
    """Nothing is in flight from the source to the goal."""

    def __init__(self, source, goal):
        self.source = source
        self.goal = goal


class Busy(RuntimeError):
    """The host takes part in a relink."""

    def __init__(self, host):
        self.host = host


class NotLinked(RuntimeError):
    """The host is not linked to the other one."""

    def __init__(self, host, other):
        self.host = host
        self.other = other


class NotALeaf(RuntimeError):
    """The host is no leaf that can leave."""

    def __init__(self, host):
        self.host = host


class NameTaken(RuntimeError):
    """The name is in use, or was in use before."""

    def __init__(self, value):
        self.value = value


class NotAtRest(RuntimeError):
    """Items are in flight in these channels."""

    def __init__(self, channels):
        self.channels = channels


class NoNetwork(RuntimeError):
    """The desk has no network yet."""

    def __init__(self):
        pass


class TooMany(ArithmeticError):
    """The limit is exceeded."""

    def __init__(self, limit):
        self.limit = limit

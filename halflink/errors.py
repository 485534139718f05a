"""The errors of the package."""


class LinkError(ValueError):
    """An argument that is not what it must be."""


class InvalidMachine(LinkError):
    """The value is not a machine."""


class InvalidNetwork(LinkError):
    """The value is not a network."""


class InvalidConfiguration(LinkError):
    """The value is not a configuration of the network."""


class InvalidLogs(LinkError):
    """The value is not logs of the network, or the logs of two runs differ."""


class InvalidView(LinkError):
    """The value is not a view of the network."""


class InvalidWord(LinkError):
    """The value is not a word, or not a word of the talk."""


class InvalidOperation(LinkError):
    """The arguments do not allow what is asked for."""


class ParseError(LinkError):
    """The text is not written as it must be."""


class InvalidCommand(LinkError):
    """The value is not a command of the shell."""


class UnknownName(KeyError):
    """There is nothing with this name."""

    def __init__(self, name):
        self.name = name


class InvalidNumber(IndexError):
    """The value is not an integer within its bounds."""

    def __init__(self, value):
        self.value = value


class InvalidRun(LookupError):
    """The move at this position is not possible."""

    def __init__(self, at):
        self.at = at


class InvalidPath(LookupError):
    """The act at this position is not possible."""

    def __init__(self, at):
        self.at = at


class TooMany(OverflowError):
    """There are more than this limit allows."""

    def __init__(self, limit):
        self.limit = limit


class Crossed(RuntimeError):
    """This run leads to a configuration in which a link is crossed."""

    def __init__(self, run):
        self.run = run


class NothingToUndo(ArithmeticError):
    """There are not so many groups that could be undone or performed again."""

    def __init__(self, many):
        self.many = many

"""The errors of the package; each keeps what it was constructed with."""


class PackError(ValueError):
    """What all other errors of the package are; it is raised nowhere itself."""


class Wrong(PackError):
    """The argument at a place is not as described."""

    def __init__(self, place):
        self.place = place


class NoVersion(PackError):
    """A text shows no version."""


class NoRange(PackError):
    """The word at a place cannot stand there in a range text."""

    def __init__(self, place):
        self.place = place


class NoText(PackError):
    """The line with an index cannot stand there in a text."""

    def __init__(self, line):
        self.line = line


class Doubled(PackError):
    """There is a pack with this name and version already."""

    def __init__(self, name, version):
        self.name = name
        self.version = version


class NoPack(PackError):
    """There is no pack with this name and version."""

    def __init__(self, name, version):
        self.name = name
        self.version = version


class TooMany(PackError):
    """There are more than the most that can be gone through."""

    def __init__(self, most):
        self.most = most


class NotThere(PackError):
    """A lock has something else at a name than was told."""

    def __init__(self, name):
        self.name = name


class PowerCut(PackError):
    """The power of a disk is gone."""


class NoGeneration(PackError):
    """There is no sound generation with a number."""

    def __init__(self, number):
        self.number = number


class NoCommand(PackError):
    """A line tells no command."""

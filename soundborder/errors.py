"""The errors of the package."""


class BorderError(ValueError):
    """The base class of all errors."""


class BadType(BorderError):
    """A value that is no type."""


class BadDesign(BorderError):
    """A value that is no design."""


class BadProgram(BorderError):
    """A value that is no program; part is the number of its first bad function, or None."""

    def __init__(self, part):
        BorderError.__init__(self, f"no program: part {part}")
        self.part = part


class NotMade(BorderError):
    """What is asked for is not there for these arguments."""


class NotText(BorderError):
    """A value that is no string."""


class InvalidText(BorderError):
    """A text that cannot be read; line is the number, from 1, of its first bad line."""

    def __init__(self, line):
        BorderError.__init__(self, f"line {line} cannot stand there")
        self.line = line


class NotNow(BorderError):
    """What a desk is asked for cannot be done at present."""


class NothingToUndo(BorderError):
    """A desk has no change to take back."""

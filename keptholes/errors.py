"""The errors that the package raises."""


class HoleError(ValueError):
    """What all errors of the package are derived from."""


class InvalidFile(HoleError):
    """An argument is not a file, or no row of cells for one."""

    def __init__(self, value=None):
        self.value = value


class InvalidNumber(HoleError):
    """An argument is not a whole number within its bounds."""

    def __init__(self, value=None):
        self.value = value


class InvalidScript(HoleError):
    """An argument is not a script, or no list of steps for one."""

    def __init__(self, value=None):
        self.value = value


class InvalidList(HoleError):
    """An argument is not a list of what it should contain."""

    def __init__(self, value=None):
        self.value = value


class InvalidWrite(HoleError):
    """An argument, or an item of one, is not a write that fits."""

    def __init__(self, value=None):
        self.value = value


class InvalidHistory(HoleError):
    """An argument is not a history."""

    def __init__(self, value=None):
        self.value = value


class InvalidContent(HoleError):
    """An argument is not a content of the length of a file."""

    def __init__(self, value=None):
        self.value = value


class InvalidText(HoleError):
    """An argument is not the text of what is to be read from it."""

    def __init__(self, spot=None):
        self.spot = spot


class Busy(HoleError):
    """A store cannot do this while a copier reads it."""


class Closed(HoleError):
    """A copier has been closed."""

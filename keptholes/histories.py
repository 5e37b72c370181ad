"""Histories: files, and what was written to them."""

from keptholes.basics import check_number, is_row, is_whole, overwritten
from keptholes.errors import InvalidContent, InvalidHistory, InvalidList, InvalidWrite
from keptholes.files import CELLS, HOLE, File, check_file


class History:
    """A file, and the list of what was written to it, which may grow."""

    def __init__(self, file, writes=None):
        check_file(file)
        if writes is not None and not isinstance(writes, list):
            raise InvalidList(writes)
        self._file = file
        # A tuple, so that who iterates over it meets no write that is appended meanwhile.
        self._writes = () if writes is None else tuple(writes)
        for write in self._writes:
            check_write(write, file)

    @property
    def file(self):
        """The file at the beginning."""
        return self._file

    def __len__(self):
        return len(self._writes)

    def __getitem__(self, at):
        check_number(at, 0, len(self._writes) - 1)
        return self._writes[at]

    def __iadd__(self, other):
        check_write(other, self._file)
        self._writes = (*self._writes, other)
        return self

    def __eq__(self, other):
        return isinstance(other, History) and self._file == other._file and self._writes == other._writes

    def __iter__(self):
        return iter(self._writes)

    def at(self, t):
        """Return the content at a moment."""
        check_number(t, 0, len(self._writes))
        return self.states()[t]

    def states(self):
        """Return the list of the contents at all moments."""
        content = self._file.content
        found = [content]
        for begin, text in self._writes:
            content = overwritten(content, begin, text)
            found.append(content)
        return found

    def part(self, first, last):
        """Return the history from one moment to another."""
        check_number(first, 0, len(self._writes))
        check_number(last, first, len(self._writes))
        return History(File(self.at(first)), list(self._writes[first:last]))

    def moments_of(self, content):
        """Return the ascending list of the moments at which the file reads so."""
        check_content(content, self._file)
        return [t for t, state in enumerate(self.states()) if state == content]

    def copy(self):
        """Return an independent history that is equal."""
        return History(self._file, list(self._writes))


def check_history(value):
    """Raise InvalidHistory unless a value is a history."""
    if not isinstance(value, History):
        raise InvalidHistory(value)


def check_write(value, file):
    """Raise InvalidWrite unless a value is a write that fits a file."""
    if not is_fitting(value, file):
        raise InvalidWrite(value)


def is_fitting(value, file):
    """Tell whether a value is a write that fits a file."""
    return _is_write(value) and value[0] + len(value[1]) <= len(file)


def check_content(value, file):
    """Raise InvalidContent unless a value is a content of the length of a file."""
    if not _is_content(value) or len(value) != len(file):
        raise InvalidContent(value)


def _is_content(value):
    """Tell whether a value is what some file reads as."""
    return is_row(value, CELLS) and HOLE not in value


def _is_write(value):
    """Tell whether a value is a write, whatever the file is."""
    if not isinstance(value, tuple) or len(value) != 2:
        return False
    begin, text = value
    return is_whole(begin) and begin >= 0 and _is_content(text) and len(text) >= 1

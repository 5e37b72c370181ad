"""Files: rows of cells, which are holes or written."""

from keptholes.basics import blocks, check_number, is_row
from keptholes.errors import InvalidFile

HOLE = "."
BLANK = "0"
CELLS = ".0abcdefghijklmnopqrstuvwxyz"


class File:
    """A row of cells that never changes."""

    def __init__(self, cells=""):
        if not is_row(cells, CELLS):
            raise InvalidFile(cells)
        self._cells = cells

    @property
    def cells(self):
        """The string of all cells."""
        return self._cells

    @property
    def content(self):
        """What the file reads as: holes read as noughts."""
        return self._cells.replace(HOLE, BLANK)

    @property
    def room(self):
        """The number of written cells."""
        return len(self._cells) - self._cells.count(HOLE)

    def __len__(self):
        return len(self._cells)

    def __getitem__(self, at):
        check_number(at, 0, len(self._cells) - 1)
        return self._cells[at]

    def __eq__(self, other):
        return isinstance(other, File) and self._cells == other._cells

    def __iter__(self):
        return iter(self._cells)

    def stretches(self):
        """Return the list of (begin, end) of the longest stretches of written cells."""
        found = []
        begin = 0
        for piece in self._cells.split(HOLE):
            end = begin + len(piece)
            if piece:
                found.append((begin, end))
            begin = end + 1
        return found

    def cut(self, length):
        """Return the file of the first cells, so many."""
        check_number(length, 0, len(self._cells))
        return File(self._cells[:length])

    def grown(self, length):
        """Return the file with holes added up to this length."""
        check_number(length, len(self._cells))
        return File(self._cells + HOLE * (length - len(self._cells)))

    def punched(self, begin, end, size):
        """Return the file whose cells from begin to end - 1 are noughts: holes in whole blocks, else blanks."""
        check_number(begin, 0, len(self._cells))
        check_number(end, begin, len(self._cells))
        check_number(size, 1)
        cells = list(self._cells)
        cells[begin:end] = [BLANK] * (end - begin)
        for low, high in blocks(len(self._cells), size):
            if begin <= low and high <= end:
                cells[low:high] = [HOLE] * (high - low)
        return File("".join(cells))


def check_file(value):
    """Raise InvalidFile unless a value is a file."""
    if not isinstance(value, File):
        raise InvalidFile(value)

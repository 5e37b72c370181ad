"""Stores: files that are changed, and copiers that read them meanwhile."""

from keptholes.basics import check_number, overwritten, reading_order
from keptholes.errors import Busy, Closed
from keptholes.files import BLANK, File, check_file
from keptholes.histories import History, check_write
from keptholes.steps import check_script


class Copier:
    """Reads the file of a store block by block while it is changed; a store makes it."""

    def __init__(self, store, size, down):
        self._store = store
        self._file = store.file
        self._order = reading_order(len(store.file), size, down)
        self._writes = []
        self._taken = []
        self._closed = False

    def __enter__(self):
        return self

    def __exit__(self, kind, value, trace):
        self._closed = True

    @property
    def taken(self):
        """The list of (block, content) of the blocks read so far."""
        return list(self._taken)

    @property
    def ended(self):
        """Whether all blocks have been read."""
        return len(self._taken) == len(self._order)

    @property
    def history(self):
        """The history of the file from when the copier was made until it ended or was closed."""
        return History(self._file, self._writes)

    def read(self):
        """Read the next block and return (block, content), None if all have been read."""
        if self._closed:
            raise Closed()
        if self.ended:
            return None
        block, begin, end = self._order[len(self._taken)]
        piece = (block, self._store.file.content[begin:end])
        self._taken.append(piece)
        return piece

    def copied(self):
        """Return the content that was copied, None if not all blocks have been read."""
        if not self.ended:
            return None
        return "".join([content for _, content in sorted(self._taken)])

    def close(self):
        """Read no more; closing again does nothing."""
        self._closed = True

    def is_going(self):
        """Tell whether the copier has neither ended nor been closed."""
        return not self._closed and not self.ended

    def note(self, write):
        """Take a write to the file into the history, as long as the copier is going."""
        if self.is_going():
            self._writes.append(write)


class Store:
    """Holds a file that is changed."""

    def __init__(self, file=None):
        if file is not None:
            check_file(file)
        self._file = File() if file is None else file
        self._past = []
        # The store keeps them itself, since those that the caller has dropped count, too.
        self._copiers = []

    @property
    def file(self):
        """The file as it is now."""
        return self._file

    @property
    def made(self):
        """The number of changes that have not been undone."""
        return len(self._past)

    def write(self, begin, text):
        """Put a text into the cells from begin on."""
        write = (begin, text)
        check_write(write, self._file)
        self._change(File(overwritten(self._file.cells, begin, text)))
        self._note(write)

    def punch(self, begin, end, size):
        """Make the cells from begin to end - 1 noughts: holes in whole blocks, else blanks."""
        self._change(self._file.punched(begin, end, size))
        if begin < end:
            self._note((begin, BLANK * (end - begin)))

    def cut(self, length):
        """Keep just the first cells, so many."""
        self._check_free()
        self._change(self._file.cut(length))

    def grow(self, length):
        """Add holes up to this length."""
        self._check_free()
        self._change(self._file.grown(length))

    def run(self, script):
        """Play a script."""
        check_script(script)
        self._change(script.play(self._file))

    def back(self):
        """Undo the last change; tell whether there was one."""
        self._check_free()
        if not self._past:
            return False
        self._file = self._past.pop()
        return True

    def copier(self, size, *, down=False):
        """Return a copier of the file by blocks of this size, from the first one on or down from the last one."""
        check_number(size, 1)
        made = Copier(self, size, down)
        self._copiers = [*[copier for copier in self._copiers if copier.is_going()], made]
        return made

    def _change(self, file):
        """Hold another file from now on."""
        self._past.append(self._file)
        self._file = file

    def _note(self, write):
        """Tell all copiers of a write to the file."""
        for copier in self._copiers:
            copier.note(write)

    def _check_free(self):
        """Raise Busy as long as some copier has neither ended nor been closed."""
        if any([copier.is_going() for copier in self._copiers]):
            raise Busy()

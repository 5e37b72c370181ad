"""Steps, which make a file out of a file, and scripts, which are lists of steps."""

from math import lcm

from keptholes.basics import blocks, check_number
from keptholes.errors import InvalidScript
from keptholes.files import BLANK, HOLE, File, check_file


class Step:
    """What all steps are derived from; it has no objects of its own."""

    def __init__(self):
        raise TypeError("a step is a Full, a Keep, a Lean or a Dig")


class Full(Step):
    """Makes all cells written."""

    def __init__(self):
        # The one of the base class lets no object be made.
        pass

    def __eq__(self, other):
        if not isinstance(other, Full):
            return False
        return True

    def play(self, file):
        """Return the file that the step makes."""
        check_file(file)
        return File(_filled(file.cells))


class Keep(Step):
    """Makes all cells of each block with a written cell written."""

    def __init__(self, size):
        check_number(size, 1)
        self._size = size

    @property
    def size(self):
        """The size of the blocks."""
        return self._size

    def __eq__(self, other):
        return isinstance(other, Keep) and self._size == other._size

    def play(self, file):
        """Return the file that the step makes."""
        check_file(file)
        return File("".join([_kept(piece) for piece in _pieces(file, self._size)]))


class Lean(Step):
    """Makes all cells of each block with a sign written, and those of all other blocks holes."""

    def __init__(self, size):
        check_number(size, 1)
        self._size = size

    @property
    def size(self):
        """The size of the blocks."""
        return self._size

    def __eq__(self, other):
        return isinstance(other, Lean) and self._size == other._size

    def play(self, file):
        """Return the file that the step makes."""
        check_file(file)
        return File("".join([_leaned(piece) for piece in _pieces(file, self._size)]))


class Dig(Step):
    """Makes all cells of each block without a sign holes."""

    def __init__(self, size):
        check_number(size, 1)
        self._size = size

    @property
    def size(self):
        """The size of the blocks."""
        return self._size

    def __eq__(self, other):
        return isinstance(other, Dig) and self._size == other._size

    def play(self, file):
        """Return the file that the step makes."""
        check_file(file)
        return File("".join([_dug(piece) for piece in _pieces(file, self._size)]))


class Script:
    """A list of steps, done one after another, that never changes."""

    def __init__(self, steps=None):
        if steps is not None and not _is_list_of_steps(steps):
            raise InvalidScript(steps)
        self._steps = () if steps is None else tuple(steps)

    @property
    def period(self):
        """The least common multiple of all sizes of the steps."""
        found = 1
        for step in self._steps:
            if not isinstance(step, Full):
                found = lcm(found, step.size)
        return found

    def __len__(self):
        return len(self._steps)

    def __getitem__(self, at):
        check_number(at, 0, len(self._steps) - 1)
        return self._steps[at]

    def __eq__(self, other):
        return isinstance(other, Script) and self._steps == other._steps

    def __iter__(self):
        return iter(self._steps)

    def __add__(self, other):
        check_script(other)
        return Script(list(self._steps + other._steps))

    def __mul__(self, other):
        check_number(other, 0)
        return Script(list(self._steps * other))

    def without(self, k):
        """Return the script without step k."""
        check_number(k, 0, len(self._steps) - 1)
        return Script(list(self._steps[:k] + self._steps[k + 1:]))

    def play(self, file):
        """Return the file after all steps."""
        check_file(file)
        made = file
        for step in self._steps:
            made = step.play(made)
        return made

    def traces(self, file):
        """Return the list of the files after each step."""
        check_file(file)
        found = []
        made = file
        for step in self._steps:
            made = step.play(made)
            found.append(made)
        return found


def check_script(value):
    """Raise InvalidScript unless a value is a script."""
    if not isinstance(value, Script):
        raise InvalidScript(value)


def _is_list_of_steps(value):
    """Tell whether a value is a list of nothing but steps."""
    return isinstance(value, list) and all([isinstance(step, Step) for step in value])


def _pieces(file, size):
    """Return the list of the cells of each block, as strings."""
    return [file.cells[begin:end] for begin, end in blocks(len(file), size)]


def _kept(piece):
    """Return what Keep makes of the cells of a block."""
    return _filled(piece) if piece.strip(HOLE) else piece


def _leaned(piece):
    """Return what Lean makes of the cells of a block."""
    return _filled(piece) if _has_sign(piece) else _emptied(piece)


def _dug(piece):
    """Return what Dig makes of the cells of a block."""
    return piece if _has_sign(piece) else _emptied(piece)


def _has_sign(piece):
    """Tell whether a cell of these is a sign."""
    return any([cell not in (HOLE, BLANK) for cell in piece])


def _filled(piece):
    """Return these cells with a blank instead of each hole."""
    return piece.replace(HOLE, BLANK)


def _emptied(piece):
    """Return as many holes."""
    return HOLE * len(piece)

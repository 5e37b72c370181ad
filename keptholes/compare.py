"""Comparisons of what scripts do, whatever the file is."""

from math import lcm

from keptholes.files import BLANK, HOLE, File
from keptholes.reasons import sign_rows, start_of, starts
from keptholes.steps import Script, check_script

SIGN = "a"


def alike(one, other):
    """Tell whether two scripts make the same file out of every file."""
    return parting(one, other) is None


def parting(one, other):
    """Return a file out of which two scripts make unlike files, None if they are alike."""
    return _first_file(one, other, lambda first, second: first ^ second)


def never_more(one, other):
    """Tell whether each cell that is written after one script is written after the other, whatever the file is."""
    return more_file(one, other) is None


def more_file(one, other):
    """Return a file in which some cell is written after one script and not after the other, None if there is none."""
    return _first_file(one, other, lambda first, second: first & ~second)


def exchangeable(one, other):
    """Tell whether two scripts do the same in either order."""
    _check_scripts(one, other)
    return alike(one + other, other + one)


def needless(script):
    """Return the ascending list of the steps without each of which a script does the same."""
    check_script(script)
    return [k for k in range(len(script)) if alike(script, script.without(k))]


def keeps_holes(script):
    """Tell whether all holes of every file are holes after a script."""
    return never_more(script, Script())


def keeps_written(script):
    """Tell whether all written cells of every file are written after a script."""
    return never_more(Script(), script)


def _check_scripts(one, other):
    """Raise InvalidScript for the first of two values that is no script."""
    check_script(one)
    check_script(other)


def _first_file(one, other, chosen):
    """Return a file with starts that are chosen of those after one script and the other, None if none are chosen."""
    _check_scripts(one, other)
    length = lcm(one.period, other.period)
    # If any file shows it, so does one that has just a least reason of one of the scripts.
    for signs in sign_rows(length):
        for first, second in zip(starts(one, signs, length), starts(other, signs, length)):
            found = chosen(first, second)
            if found:
                return _file_with(length, signs, start_of(found, length))
    return None


def _file_with(length, signs, blanks):
    """Return the file of so many cells with these signs and blanks."""
    cells = [HOLE] * length
    for k in signs:
        cells[k] = SIGN
    for k in blanks:
        cells[k] = BLANK
    return File("".join(cells))

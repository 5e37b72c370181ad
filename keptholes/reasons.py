"""Reasons: the least that a file must have so that a cell is written after a script."""

from keptholes.basics import blocks, check_number
from keptholes.steps import Dig, Full, Keep, check_script


def reasons(script, cell):
    """Return the ascending list of all least reasons for a cell, as (signs, blanks)."""
    check_script(script)
    check_number(cell, 0)
    length = script.period
    begin = cell // length * length
    table = {signs: starts(script, signs, length)[cell - begin] for signs in sign_rows(length)}
    return sorted([
        ([begin + k for k in signs], [begin + k for k in blanks])
        for signs in table for blanks in _blank_rows(table[signs], length) if _is_least(table, signs, blanks)
    ])


def sign_rows(length):
    """Return all ascending tuples of at most two of so many cells."""
    # Signs stay written. So where a way from a written cell to another one comes upon a sign, it may as well begin
    # there: it needs no signs but the nearest one on either side, and no third one is in a least reason.
    cells = range(length)
    return [(), *[(k,) for k in cells], *[(j, k) for j in cells for k in range(j + 1, length)]]


def starts(script, signs, length):
    """Return for each of so many cells, with signs in just these, where a blank makes it written after the script.

    Each is a number: its bit k stands for a blank in cell k, and bit length for no blank at all.
    """
    # With the signs given, each written cell spreads by itself. So one blank at a time tells it all.
    always = (2 << length) - 1
    found = [always if k in signs else 1 << k for k in range(length)]
    for step in script:
        found = _stepped(step, signs, found, always)
    return found


def start_of(found, length):
    """Return the tuple of the one blank, or of none, that a number of starts (not 0) needs at the least."""
    top = found.bit_length() - 1
    return () if top == length else (top,)


def _stepped(step, signs, found, always):
    """Return the starts after a step, given those before it."""
    if isinstance(step, Full):
        return [always] * len(found)
    made = []
    for begin, end in blocks(len(found), step.size):
        if isinstance(step, Keep):
            made.extend([_joined(found[begin:end])] * (end - begin))
        elif not any([begin <= k < end for k in signs]):
            made.extend([0] * (end - begin))
        elif isinstance(step, Dig):
            made.extend(found[begin:end])
        else:
            made.extend([always] * (end - begin))
    return made


def _joined(numbers):
    """Return the number with each bit that one of these has."""
    joined = 0
    for number in numbers:
        joined = joined | number
    return joined


def _blank_rows(found, length):
    """Return the tuples of at most one blank that these starts ask for, none that could be left out."""
    if found >> length:
        return [()]
    return [(k,) for k in range(length) if found >> k & 1]


def _is_least(table, signs, blanks):
    """Tell whether no sign of a reason could be a blank instead."""
    # The blanks are those that cannot be left out; and a sign that cannot be a blank cannot be left out either.
    for sign in signs:
        found = table[tuple([k for k in signs if k != sign])]
        if any([found >> k & 1 for k in (sign, *blanks)]):
            return False
    return True

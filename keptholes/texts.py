"""Texts: scripts and histories, line by line."""

from keptholes.basics import is_row
from keptholes.errors import InvalidText
from keptholes.files import CELLS, File
from keptholes.histories import History, check_history, is_fitting
from keptholes.steps import Dig, Full, Keep, Lean, Script, check_script

FIGURES = "0123456789"


def write_script(script):
    """Return the text of a script."""
    check_script(script)
    return "\n".join([_step_line(step) for step in script])


def read_script(text):
    """Return the script with this text."""
    lines = _lines(text)
    # No line is empty, but the text without any line has just an empty one.
    if lines == [""]:
        return Script()
    steps = []
    for spot, line in enumerate(lines, start=1):
        step = _step_of(line)
        if step is None:
            raise InvalidText(spot)
        steps.append(step)
    return Script(steps)


def write_history(history):
    """Return the text of a history."""
    check_history(history)
    return "\n".join([history.file.cells, *[f"{begin} {text}" for begin, text in history]])


def read_history(text):
    """Return the history with this text."""
    lines = _lines(text)
    if not is_row(lines[0], CELLS):
        raise InvalidText(1)
    file = File(lines[0])
    writes = []
    for spot, line in enumerate(lines[1:], start=2):
        write = _write_of(line)
        if not is_fitting(write, file):
            raise InvalidText(spot)
        writes.append(write)
    return History(file, writes)


def _lines(text):
    """Return the list of the lines of a text."""
    if not isinstance(text, str):
        raise InvalidText()
    return text.split("\n")


def _step_line(step):
    """Return the line of a step."""
    if isinstance(step, Full):
        return "full"
    if isinstance(step, Keep):
        return f"keep {step.size}"
    if isinstance(step, Lean):
        return f"lean {step.size}"
    return f"dig {step.size}"


def _step_of(line):
    """Return the step with this line, None if there is none."""
    if line == "full":
        return Full()
    word, _, figures = line.partition(" ")
    size = _number_of(figures)
    if size is None or size == 0:
        return None
    if word == "keep":
        return Keep(size)
    if word == "lean":
        return Lean(size)
    return Dig(size) if word == "dig" else None


def _write_of(line):
    """Return what would be the write with this line; it need not be one."""
    figures, _, text = line.partition(" ")
    return _number_of(figures), text


def _number_of(figures):
    """Return the number with these figures, None unless they are written as numbers are."""
    if not is_row(figures, FIGURES) or figures == "" or (figures[0] == "0" and len(figures) > 1):
        return None
    return int(figures)

"""Torn copies: those that show no moment of a history, and the holds against them."""

from keptholes.basics import check_number
from keptholes.copies import Choices
from keptholes.histories import check_history


def torn_copy(history, size, first=0, last=None, *, down=False):
    """Return the content of a torn copy that reads from one moment to another, None if there is none."""
    check_history(history)
    check_number(size, 1)
    check_number(first, 0, len(history))
    end = len(history) if last is None else last
    check_number(end, first, len(history))
    return _torn_content(history.states(), size, first, end, down)


def holds(history, size, *, down=False):
    """Return the ascending list of as few holds as possible so that no copy is torn, None if none are enough."""
    found = windows(history, size, down=down)
    if any([_is_tight(window) for window in found]):
        return None
    return [last - 1 for _, last in found]


def windows(history, size, *, down=False):
    """Return the list of (first, last) with a torn copy each, as many as holds are needed, or one of two moments."""
    check_history(history)
    check_number(size, 1)
    states = history.states()
    found = []
    hold = 0
    # Each hold comes as late as possible: one moment before a copy from the hold before it on can be torn.
    for last in range(1, len(states)):
        while _torn_content(states, size, hold, last, down) is not None:
            window = (hold, last)
            if _is_tight(window):
                return [window]
            found.append(window)
            hold = last - 1
    return found


def _is_tight(window):
    """Tell whether there is no moment for a hold between the bounds of a window."""
    first, last = window
    return last == first + 1


def _torn_content(states, size, first, last, down):
    """Return the first content of a torn copy that reads from one moment to another, None if there is none."""
    choices = Choices(states[first:last + 1], size, down)
    # Of one content more than there are moments, some one is that of no moment.
    for number in range(min(choices.many(), len(states) + 1)):
        content = choices.content_at(number)
        if content not in states:
            return content
    return None

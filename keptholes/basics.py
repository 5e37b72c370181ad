"""What several modules need: checks of plain values, and the blocks of a row of cells."""

from keptholes.errors import InvalidNumber


def is_whole(value):
    """Tell whether a value is a whole number."""
    # For Python a Boolean is an integer, too.
    return isinstance(value, int) and not isinstance(value, bool)


def check_number(value, low, high=None):
    """Raise InvalidNumber unless a value is a whole number from low to high (without an upper bound for None)."""
    if not is_whole(value) or value < low or (high is not None and value > high):
        raise InvalidNumber(value)


def is_row(value, signs):
    """Tell whether a value is a string in which only these characters occur."""
    return isinstance(value, str) and all([sign in signs for sign in value])


def blocks(length, size):
    """Return the list of (begin, end) of the blocks of so many cells; the last one ends with them."""
    return [(begin, min(begin + size, length)) for begin in range(0, length, size)]


def reading_order(length, size, down):
    """Return the list of (block, begin, end), from the first block on, or from the last one on if down is true."""
    found = [(block, begin, end) for block, (begin, end) in enumerate(blocks(length, size))]
    return found[::-1] if down else found


def overwritten(row, begin, text):
    """Return a row with this text instead of what it has from begin on."""
    return row[:begin] + text + row[begin + len(text):]

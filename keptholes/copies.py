"""Copies: what can be read block by block from a file that is written to meanwhile."""

from keptholes.basics import blocks, check_number, reading_order
from keptholes.histories import check_content, check_history


def copy_moments(history, size, content, *, down=False):
    """Return the list of the earliest moments, block by block, for a copy with this content, None if there is none."""
    check_history(history)
    check_number(size, 1)
    check_content(content, history.file)
    moments, _ = _read(history.states(), size, content, down)
    return moments


def late_block(history, size, content, *, down=False):
    """Return (block, moment) where no copy can go on with this content, None if some copy has it."""
    check_history(history)
    check_number(size, 1)
    check_content(content, history.file)
    _, late = _read(history.states(), size, content, down)
    return late


def copy_count(history, size, *, down=False):
    """Return how many contents the copies have."""
    check_history(history)
    check_number(size, 1)
    return Choices(history.states(), size, down).many()


def copy_at(history, size, number, *, down=False):
    """Return the content with this number in the ascending order of all that copies have."""
    check_history(history)
    check_number(size, 1)
    choices = Choices(history.states(), size, down)
    check_number(number, 0, choices.many() - 1)
    return choices.content_at(number)


def copy_number(history, size, content, *, down=False):
    """Return the number of a content in the ascending order of all that copies have, None if no copy has it."""
    check_history(history)
    check_number(size, 1)
    check_content(content, history.file)
    return Choices(history.states(), size, down).number_of(content)


def sizes_for(history, content, most, *, down=False):
    """Return the ascending list of the sizes up to the most by which some copy has this content."""
    check_history(history)
    check_content(content, history.file)
    check_number(most, 1, 300)
    states = history.states()
    return [size for size in range(1, most + 1) if _read(states, size, content, down)[1] is None]


class Choices:
    """The contents of all copies, by blocks of a size, that read while the file goes through these states.

    Each content is met once, by the way to read it that takes each block, from the first one of the file on, at the
    first place that can be. So what may follow a block hangs on nothing but its place.
    """

    def __init__(self, states, size, down):
        # To read from the last block on is, backwards in time, to read from the first one on.
        rows = states[::-1] if down else states
        self._pieces = [[row[begin:end] for row in rows] for begin, end in blocks(len(rows[0]), size)]
        counts = [[1] * len(rows)]
        for pieces in self._pieces[::-1]:
            counts.append(_counts_before(pieces, counts[-1]))
        self._counts = counts[::-1]

    def many(self):
        """Return how many contents there are."""
        return self._counts[0][0]

    def content_at(self, number):
        """Return the content with this number in ascending order."""
        found = []
        place = 0
        left = number
        for pieces, after in zip(self._pieces, self._counts[1:]):
            choices = _choices(pieces, place)
            k = 0
            while left >= after[choices[k][1]]:
                left = left - after[choices[k][1]]
                k = k + 1
            piece, place = choices[k]
            found.append(piece)
        return "".join(found)

    def number_of(self, content):
        """Return the number of a content in ascending order, None if it is not there."""
        number = 0
        begin = 0
        place = 0
        for pieces, after in zip(self._pieces, self._counts[1:]):
            piece = content[begin:begin + len(pieces[0])]
            choices = _choices(pieces, place)
            places = [k for other, k in choices if other == piece]
            if not places:
                return None
            number = number + sum([after[k] for other, k in choices if other < piece])
            begin = begin + len(piece)
            place = places[0]
        return number


def _read(states, size, content, down):
    """Return the list of the earliest moments, block by block, and None; or None, and where it fails."""
    moments = []
    moment = 0
    for block, begin, end in reading_order(len(content), size, down):
        found = _moment_from(moment, states, begin, content[begin:end])
        if found is None:
            return None, (block, moment)
        moments.append(found)
        moment = found
    return (moments[::-1] if down else moments), None


def _moment_from(moment, states, begin, piece):
    """Return the first moment from this one on at which the cells from begin on read so, None if there is none."""
    for t in range(moment, len(states)):
        if states[t][begin:begin + len(piece)] == piece:
            return t
    return None


def _choices(pieces, place):
    """Return the ascending list of (piece, k) of the pieces from a place on, each with its first place k there."""
    first = {}
    for k in range(len(pieces) - 1, place - 1, -1):
        first[pieces[k]] = k
    return sorted(first.items())


def _counts_before(pieces, after):
    """Return for each place how many contents there are from a block on, given how many from the next block on."""
    found = []
    first = {}
    for place in range(len(pieces) - 1, -1, -1):
        first[pieces[place]] = place
        found.append(sum([after[k] for k in first.values()]))
    return found[::-1]

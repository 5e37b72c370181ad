"""Spreads: how far one written cell makes others written."""

from math import gcd, lcm

from keptholes.basics import check_number, is_whole
from keptholes.errors import InvalidList


def spread(sizes, cell):
    """Return the (begin, end) of what one written cell becomes by Keep of each of these sizes, one after another."""
    if not _is_list_of_sizes(sizes):
        raise InvalidList(sizes)
    check_number(cell, 0)
    return _spread(sizes, cell, cell + 1)


def rounds_spread(one, other, rounds, cell):
    """Return the (begin, end) of what one written cell becomes by so many rounds of Keep(one) and Keep(other)."""
    check_number(one, 1)
    check_number(other, 1)
    check_number(rounds, 0)
    check_number(cell, 0)
    if rounds == 0:
        return cell, cell + 1
    # From bounds of the larger blocks on, the smaller ones never reach across a whole larger one: each further round
    # moves a bound by just one larger block, until it is one of the smaller blocks, too; then it stays for good.
    larger = max(one, other)
    begin, end = _spread([one, larger], cell, cell + 1)
    far = larger * (rounds - 1)
    least, most = _spread([lcm(one, other)], begin, end)
    return _spread([other], max(begin - far, least), min(end + far, most))


def settles(one, other):
    """Return the least number of rounds, at least 1, after which one more round changes nothing in any file."""
    check_number(one, 1)
    check_number(other, 1)
    # So many larger blocks lie between two common multiples. At worst the first round takes a bound one of them on
    # from such a multiple, and each further round takes it to the next of them (see rounds_spread).
    return min(one, other) // gcd(one, other)


def _is_list_of_sizes(value):
    """Tell whether a value is a list of nothing but whole numbers of at least 1."""
    return isinstance(value, list) and all([is_whole(size) and size >= 1 for size in value])


def _spread(sizes, begin, end):
    """Return the (begin, end) of what a written stretch becomes by Keep of each of these sizes."""
    for size in sizes:
        begin = begin // size * size
        end = -(-end // size) * size
    return begin, end

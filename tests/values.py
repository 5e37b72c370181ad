"""Values of all kinds that callers may pass, and what several tests need."""

import itertools

from keptholes.errors import HoleError, InvalidNumber
from keptholes.files import File
from keptholes.histories import History
from keptholes.steps import Dig, Full, Keep, Lean, Script

LARGE = 10 ** 40 - 1


def numbers():
    return [-LARGE, -1, 0, 1, 2, LARGE]


def booleans():
    return [True, False]


def strings():
    return ["", "0", "1", "ab.0", "A", "a b", "-", "a\nb", "~" * 4000]


def containers():
    return [
        [], [None], [1], ["a"], ["a", "."], (), (1,), ("a",), (0, "a"), {}, {1: 2}, {"a": "."},
        [File()], [Script()], [History(File())], (Keep(1),), (Full(), Full()), {0: Full()}, nested(50),
    ]


def files():
    return [File(), File("a0.")]


def steps():
    return [Full(), Keep(1), Lean(2), Dig(3)]


def scripts():
    return [Script(), Script([Full(), Keep(1)])]


def histories():
    return [History(File()), History(File("a.c"), [(0, "b"), (1, "0b")])]


def others():
    """Values that are no number, string, file, step or script."""
    return [None, *booleans(), *containers(), *histories(), HoleError(), InvalidNumber(1)]


def no_numbers():
    return [*others(), *strings(), *files(), *steps(), *scripts()]


def no_strings():
    return [*others(), *numbers(), *files(), *steps(), *scripts()]


def no_files():
    return [*others(), *numbers(), *strings(), *steps(), *scripts()]


def no_steps():
    return [*others(), *numbers(), *strings(), *files(), *scripts()]


def no_scripts():
    return [*others(), *numbers(), *strings(), *files(), *steps()]


def anything():
    return [*no_numbers(), *numbers()]


def nested(depth):
    value = 7
    for _ in range(depth):
        value = [value]
    return value


def rows(longest, cells=".0a"):
    """All rows of these cells up to a length."""
    for length in range(longest + 1):
        yield from rows_of(length, cells)


def rows_of(length, cells=".0a"):
    """All rows of so many of these cells."""
    for row in itertools.product(cells, repeat=length):
        yield "".join(row)


def divisors(number):
    return [size for size in range(1, number + 1) if number % size == 0]


def some_script(chance, sizes, longest):
    """A script of these sizes with at most 3 steps Dig or Lean, as a source of chance has it."""
    steps = []
    narrow = 0
    for _ in range(chance.randint(0, longest)):
        kind = chance.choice([Full, Keep, Keep, Keep, Lean, Dig, Dig, Dig] if narrow < 3 else [Keep])
        narrow += kind in (Lean, Dig)
        steps.append(Full() if kind is Full else kind(chance.choice(sizes)))
    return Script(steps)


def some_row(chance, length):
    """A row of so many cells few of which are written, as a source of chance has it."""
    return "".join(chance.choices(".0a", weights=[8, 1, 1], k=length))


def assert_raises_with(test, error, value, call, *args, **more):
    """The call raises just this error, which holds just this value."""
    with test.assertRaises(error) as caught:
        call(*args, **more)
    test.assertIs(type(caught.exception), error)
    test.assertIs(caught.exception.value, value)

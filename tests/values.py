"""Values of all kinds that callers may pass, and what several tests need."""

import itertools

from keptholes.errors import Busy, HoleError, InvalidNumber
from keptholes.files import File
from keptholes.histories import History
from keptholes.steps import Dig, Full, Keep, Lean, Script
from keptholes.stores import Store

LARGE = 10 ** 40 - 1


def numbers():
    return [-LARGE, -1, 0, 1, 2, LARGE]


def booleans():
    return [True, False]


def strings():
    return ["", "0", "1", "ab.0", "A", "a b", "-", "a\nb", "~" * 4000]


def containers():
    return [
        [], [None], [1], ["a"], ["a", "."], (), (1,), ("a",), (0, "a"), {}, {1: 2}, {"a": "."},
        [File()], [Script()], [History(File())], (Keep(1),), (Full(), Full()), {0: Full()}, nested(50),
    ]


def files():
    return [File(), File("a0.")]


def steps():
    return [Full(), Keep(1), Lean(2), Dig(3)]


def scripts():
    return [Script(), Script([Full(), Keep(1)])]


def histories():
    return [History(File()), History(File("a.c"), [(0, "b"), (1, "0b")])]


def stores():
    closed, reading = Store(File("a.")), Store(File("b0c"))
    closed.copier(1).close()
    reading.copier(2)
    return [Store(), closed, reading]


def copiers():
    return [Store().copier(1), Store(File("a.c")).copier(2, down=True)]


def others():
    return [None, *booleans(), *containers(), *stores(), *copiers(), HoleError(), InvalidNumber(1), Busy()]


def all_but(left_out):
    """Values of all kinds but one."""
    kinds = [others, numbers, strings, files, steps, scripts, histories]
    return [value for kind in kinds if kind is not left_out for value in kind()]


def no_numbers():
    return all_but(numbers)


def no_strings():
    return all_but(strings)


def no_files():
    return all_but(files)


def no_steps():
    return all_but(steps)


def no_scripts():
    return all_but(scripts)


def no_histories():
    return all_but(histories)


def anything():
    return all_but(None)


def nested(depth):
    value = 7
    for _ in range(depth):
        value = [value]
    return value


def rows(longest, cells=".0a"):
    """All rows of these cells up to a length."""
    for length in range(longest + 1):
        yield from rows_of(length, cells)


def rows_of(length, cells=".0a"):
    """All rows of so many of these cells."""
    for row in itertools.product(cells, repeat=length):
        yield "".join(row)


def divisors(number):
    return [size for size in range(1, number + 1) if number % size == 0]


def some_script(chance, sizes, longest):
    """A script of these sizes with at most 3 steps Dig or Lean, as a source of chance has it."""
    steps = []
    narrow = 0
    for _ in range(chance.randint(0, longest)):
        kind = chance.choice([Full, Keep, Keep, Keep, Lean, Dig, Dig, Dig] if narrow < 3 else [Keep])
        narrow += kind in (Lean, Dig)
        steps.append(Full() if kind is Full else kind(chance.choice(sizes)))
    return Script(steps)


def some_row(chance, length):
    """A row of so many cells few of which are written, as a source of chance has it."""
    return "".join(chance.choices(".0a", weights=[8, 1, 1], k=length))


def some_history(chance, longest, most, signs="0ab"):
    """A history of at most so many cells and at most so many writes, as a source of chance has it."""
    length = chance.randint(0, longest)
    history = History(File("".join(chance.choices("." + signs, k=length))))
    for _ in range(chance.randint(0, most) if length else 0):
        history += some_write(chance, length, signs)
    return history


def some_write(chance, length, signs="0ab"):
    """A write, mostly a short one, that fits so many cells."""
    begin = chance.randrange(length)
    text = chance.choices(signs, k=min(chance.choice([1, 1, 2, 3, length]), length - begin))
    return begin, "".join(text)


def lists_of_moments(count, first, last):
    """All lists of so many moments from one to another, none before the one that stands ahead of it."""
    for moments in itertools.combinations_with_replacement(range(first, last + 1), count):
        yield list(moments)


def reading_order(length, size, down):
    """The (block, begin, end) of all blocks in the order of reading, cell by cell."""
    numbers_of = sorted({cell // size for cell in range(length)}, reverse=down)
    return [(k, k * size, max(c for c in range(length) if c // size == k) + 1) for k in numbers_of]


def content_read(states, size, down, moments):
    """The content of the copy that reads one block after another at these moments."""
    told = {}
    for (block, begin, end), t in zip(reading_order(len(states[0]), size, down), moments, strict=True):
        told[block] = states[t][begin:end]
    return "".join(told[block] for block in sorted(told))


def all_copies(states, size, down, first, last):
    """The pairs of a content and the moments, in the order of reading, of all copies from one moment to another."""
    count = len(reading_order(len(states[0]), size, down))
    for moments in lists_of_moments(count, first, last):
        yield content_read(states, size, down, moments), moments


def assert_raises_with(test, error, value, call, *args, **more):
    """The call raises just this error, which holds just this value."""
    with test.assertRaises(error) as caught:
        call(*args, **more)
    test.assertIs(type(caught.exception), error)
    test.assertIs(caught.exception.value, value)

"""[3]: each call within a minute up to the limits."""

import random
import time
import unittest

from keptholes.compare import (
    alike, exchangeable, keeps_holes, keeps_written, more_file, needless, never_more, parting,
)
from keptholes.copies import copy_at, copy_count, copy_moments, copy_number, late_block, sizes_for
from keptholes.errors import InvalidContent, InvalidList, InvalidNumber, InvalidScript, InvalidText, InvalidWrite
from keptholes.files import File
from keptholes.histories import History
from keptholes.reasons import reasons
from keptholes.spreads import rounds_spread, settles, spread
from keptholes.steps import Dig, Full, Keep, Lean, Script
from keptholes.stores import Store
from keptholes.texts import read_history, read_script, write_history, write_script
from keptholes.torn import holds, torn_copy, windows
from tests.values import LARGE, assert_raises_with

MINUTE = 60
SIZES = [1, 2, 7, 299, 300, 301, 10 ** 39, LARGE]
# Common multiples of 24, and as many steps Dig or Lean as may be.
SCRIPTS = [
    Script([Keep(k) for k in [1, 2, 1, 3, 1, 8, 1, 12, 1, 24, 1, 24]]),
    Script([Keep(k) for k in [2, 3, 4, 6, 8, 12] * 2]),
    Script([Keep(1)] * 12), Script([Keep(24)] + [Keep(1)] * 11),
    Script([Dig(12), Keep(8), Dig(12), Keep(8), Keep(6), Dig(8), *[Keep(1)] * 6]),
    Script([Keep(2), Dig(8), Keep(3), Keep(2), Dig(12), Keep(4), Keep(3), Dig(6), Keep(8), Keep(1), Keep(1), Keep(1)]),
    Script([Lean(1), Keep(24), Dig(12), Keep(1), Keep(2), Keep(4), Dig(8), *[Keep(1)] * 5]),
    Script([*[Full()] * 8, Dig(12), Dig(8), Keep(6), Dig(6)]), Script([*[Full()] * 11, Lean(24)]), Script(),
]
ROWS = ["." * 300, "0" * 300, "a" * 300, "a." * 150, ".0" * 150, "a" + "." * 298 + "0"]
BOTH = [False, True]


def long_histories():
    """Histories of 300 cells and forty writes: with few copies, with many, with torn ones early, late and nowhere."""
    chance = random.Random(3)
    begins = [chance.randrange(300) for _ in range(40)]
    told = [
        [(0, "0" * 300)] * 40, [(0, sign) for sign in "ab" * 20], [(7 * k, "a") for k in range(40)],
        [(299 - 7 * k, "a") for k in range(40)], [(5 * k, "ab") for k in range(40)],
        [(0, first + second) for first in "ab" for second in "abcdefghijklmnopqrst"],
        [(0, (first + second) * 150) for first in "ab" for second in "abcdefghijklmnopqrst"],
        [(begin, "".join(chance.choices("0az", k=chance.randint(1, 300 - begin)))) for begin in begins],
        [(0, "z"), (0, "0"), *[(299 - 7 * k, "a") for k in range(38)]],
    ]
    return [History(File("." * 300), writes) for writes in told]


class Limits(unittest.TestCase):
    def in_time(self, call, *args, **more):
        begin = time.monotonic()
        told = call(*args, **more)
        self.assertLess(time.monotonic() - begin, MINUTE)
        return told

    def test_files(self):
        for cells in ROWS:
            file = self.in_time(File, cells)
            self.assertEqual(len(self.in_time(file.stretches)), len([p for p in cells.split(".") if p]))
            self.assertEqual(self.in_time(file.cut, 299).cells, cells[:299])
            self.assertEqual(self.in_time(File().grown, 300).cells, "." * 300)
            self.assertEqual("".join(self.in_time(list, file)), cells)
            for size in SIZES:
                self.assertEqual(self.in_time(file.punched, 0, 300, size).cells, "." * 300)

    def test_steps(self):
        for cells in ROWS:
            for size in SIZES:
                for kind in [Keep, Lean, Dig]:
                    made = self.in_time(kind(size).play, File(cells))
                    self.assertEqual(made.content, File(cells).content)

    def test_scripts(self):
        kinds = [Keep, Lean, Dig]
        steps = [kinds[k % 3](SIZES[k % len(SIZES)]) for k in range(59)] + [Full()]
        script = self.in_time(Script, steps)
        for cells in ROWS:
            traces = self.in_time(script.traces, File(cells))
            self.assertEqual(len(traces), 60)
            self.assertEqual(self.in_time(script.play, File(cells)), traces[-1])
        self.assertEqual(len(self.in_time(lambda: Script([Keep(LARGE)]) * 60)), 60)
        self.assertEqual(len(self.in_time(script.without, 30)), 59)
        self.assertEqual(self.in_time(lambda: Script([Keep(LARGE - k) for k in range(60)]).period) % LARGE, 0)

    def test_lists_of_300_items(self):
        for wrong in [[None] * 300, [Keep(1)] * 299 + [LARGE], [[1] * 300] * 300]:
            begin = time.monotonic()
            assert_raises_with(self, InvalidScript, wrong, Script, wrong)
            assert_raises_with(self, InvalidList, wrong, spread, wrong, 0)
            assert_raises_with(self, InvalidWrite, wrong[0], History, File(), wrong)
            self.assertLess(time.monotonic() - begin, MINUTE)

    def test_reasons(self):
        for script in SCRIPTS:
            for cell in [0, 11, LARGE]:
                self.assertGreaterEqual(len(self.in_time(reasons, script, cell)), 1)

    def test_comparisons(self):
        for one in SCRIPTS:
            for call in [needless, keeps_holes, keeps_written]:
                self.in_time(call, one)
            for other in [one, SCRIPTS[4], Script([*one, Keep(1)][-12:])]:
                same = self.in_time(alike, one, other)
                self.assertIs(self.in_time(parting, one, other) is None, same)
                self.assertIs(self.in_time(more_file, one, other) is None, self.in_time(never_more, one, other))
                self.assertIs(self.in_time(exchangeable, one, other), alike(one + other, other + one))
        self.assertEqual(self.in_time(needless, Script([Keep(1)] * 12)), list(range(12)))

    def test_spreads(self):
        sizes = [LARGE - k for k in range(300)]
        begin, end = self.in_time(spread, sizes, LARGE)
        self.assertTrue(begin <= LARGE < end)
        for one, other in [(LARGE, LARGE - 1), (LARGE - 1, LARGE), (LARGE, 3), (3, LARGE), (1, 1)]:
            enough = self.in_time(settles, one, other)
            told = self.in_time(rounds_spread, one, other, LARGE, LARGE)
            self.assertEqual(rounds_spread(one, other, LARGE + 1, LARGE) == told, enough <= LARGE)

    def test_histories(self):
        chance = random.Random(50)
        writes = []
        for _ in range(40):
            begin = chance.randrange(300)
            writes.append((begin, "".join(chance.choices("0az", k=chance.randint(1, 300 - begin)))))
        for cells in ROWS:
            history = self.in_time(History, File(cells), writes)
            states = self.in_time(history.states)
            self.assertEqual([self.in_time(history.at, t) for t in range(41)], states)
            for t, content in enumerate(states):
                self.assertIn(t, self.in_time(history.moments_of, content))
                self.assertEqual(self.in_time(history.part, t, 40).states(), states[t:])
            copy = self.in_time(history.copy)
            self.assertTrue(self.in_time(history.__eq__, copy))

    def each(self):
        for history in long_histories():
            for size in [5, 299, 300, LARGE]:
                for down in BOTH:
                    yield history, size, down

    def test_copies(self):
        for history, size, down in self.each():
            count = self.in_time(copy_count, history, size, down=down)
            for number in [0, count // 2, count - 1]:
                content = self.in_time(copy_at, history, size, number, down=down)
                self.assertEqual(self.in_time(copy_number, history, size, content, down=down), number)
                self.assertEqual(len(self.in_time(copy_moments, history, size, content, down=down)), -(-300 // size))
                self.assertIsNone(self.in_time(late_block, history, size, content, down=down))
                told = self.in_time(sizes_for, history, content, 300, down=down)
                self.assertIs(size in told, size <= 300)
            self.assertIsNone(self.in_time(copy_number, history, size, "y" * 300, down=down))
            self.assertEqual(late_block(history, size, "y" * 300, down=down)[1], 0)

    def test_torn_copies(self):
        for history, size, down in self.each():
            told = self.in_time(torn_copy, history, size, down=down)
            found = self.in_time(holds, history, size, down=down)
            self.assertIs(told is None, found == [])
            self.assertEqual(len(self.in_time(windows, history, size, down=down)), 1 if found is None else len(found))
            self.assertIsNone(self.in_time(torn_copy, history, size, 40, 40, down=down))

    def test_stores(self):
        for down in BOTH:
            store = Store(File("a." * 150))
            copier, begun = store.copier(5, down=down), time.monotonic()
            for k in range(20):
                store.write(15 * k, "b" * 15)
                copier.read()
                store.punch(k, 300 - k, 7)
                store.run(Script([Keep(LARGE), Lean(2)] * 30))
                copier.read()
            self.assertEqual((store.made, len(copier.taken), len(copier.history)), (60, 40, 40))
            while not copier.ended:
                copier.read()
            told = self.in_time(copy_moments, copier.history, 5, copier.copied(), down=down)
            self.assertEqual(len(told), 60)
            for _ in range(60):
                self.assertIs(store.back(), True)
            self.assertEqual(store.file, File("a." * 150))
            self.assertLess(time.monotonic() - begun, MINUTE)

    def test_texts(self):
        script = Script([Keep(LARGE - k) for k in range(60)])
        self.assertEqual(self.in_time(read_script, self.in_time(write_script, script)), script)
        for history in long_histories():
            self.assertEqual(self.in_time(read_history, self.in_time(write_history, history)), history)
        for text in ["\n" * 4000, "full\n" * 800, "keep " + "0" * 3995, "a" * 4000, " " * 4000, "dig 4\n" * 666]:
            begin = time.monotonic()
            for call in [read_script, read_history]:
                with self.assertRaises(InvalidText):
                    call(text + ",")
            self.assertLess(time.monotonic() - begin, MINUTE)

    def test_wrong_numbers_of_forty_figures(self):
        for history, size, down in self.each():
            for value in [-LARGE, LARGE]:
                assert_raises_with(self, InvalidNumber, value, copy_at, history, size, value, down=down)
                assert_raises_with(self, InvalidNumber, value, torn_copy, history, size, value, down=down)
                assert_raises_with(self, InvalidNumber, value, sizes_for, history, "0" * 300, value, down=down)
            assert_raises_with(self, InvalidContent, "0" * 299, copy_number, history, size, "0" * 299, down=down)

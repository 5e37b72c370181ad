"""[3]: each call within a minute up to the limits."""

import random
import time
import unittest

from keptholes.compare import (
    alike, exchangeable, keeps_holes, keeps_written, more_file, needless, never_more, parting,
)
from keptholes.errors import InvalidList, InvalidScript, InvalidWrite
from keptholes.files import File
from keptholes.histories import History
from keptholes.reasons import reasons
from keptholes.spreads import rounds_spread, settles, spread
from keptholes.steps import Dig, Full, Keep, Lean, Script
from tests.values import LARGE, assert_raises_with

MINUTE = 60
SIZES = [1, 2, 7, 299, 300, 301, 10 ** 39, LARGE]
# Common multiples of 24, and as many steps Dig or Lean as may be.
SCRIPTS = [
    Script([Keep(k) for k in [1, 2, 1, 3, 1, 8, 1, 12, 1, 24, 1, 24]]),
    Script([Keep(k) for k in [2, 3, 4, 6, 8, 12] * 2]),
    Script([Keep(1)] * 12), Script([Keep(24)] + [Keep(1)] * 11),
    Script([Dig(12), Keep(8), Dig(12), Keep(8), Keep(6), Dig(8), *[Keep(1)] * 6]),
    Script([Keep(2), Dig(8), Keep(3), Keep(2), Dig(12), Keep(4), Keep(3), Dig(6), Keep(8), Keep(1), Keep(1), Keep(1)]),
    Script([Lean(1), Keep(24), Dig(12), Keep(1), Keep(2), Keep(4), Dig(8), *[Keep(1)] * 5]),
    Script([*[Full()] * 8, Dig(12), Dig(8), Keep(6), Dig(6)]), Script([*[Full()] * 11, Lean(24)]), Script(),
]
ROWS = ["." * 300, "0" * 300, "a" * 300, "a." * 150, ".0" * 150, "a" + "." * 298 + "0"]


class Limits(unittest.TestCase):
    def in_time(self, call, *args):
        begin = time.monotonic()
        told = call(*args)
        self.assertLess(time.monotonic() - begin, MINUTE)
        return told

    def test_files(self):
        for cells in ROWS:
            file = self.in_time(File, cells)
            self.assertEqual(len(self.in_time(file.stretches)), len([p for p in cells.split(".") if p]))
            self.assertEqual(self.in_time(file.cut, 299).cells, cells[:299])
            self.assertEqual(self.in_time(File().grown, 300).cells, "." * 300)
            self.assertEqual("".join(self.in_time(list, file)), cells)
            for size in SIZES:
                self.assertEqual(self.in_time(file.punched, 0, 300, size).cells, "." * 300)

    def test_steps(self):
        for cells in ROWS:
            for size in SIZES:
                for kind in [Keep, Lean, Dig]:
                    made = self.in_time(kind(size).play, File(cells))
                    self.assertEqual(made.content, File(cells).content)

    def test_scripts(self):
        kinds = [Keep, Lean, Dig]
        steps = [kinds[k % 3](SIZES[k % len(SIZES)]) for k in range(59)] + [Full()]
        script = self.in_time(Script, steps)
        for cells in ROWS:
            traces = self.in_time(script.traces, File(cells))
            self.assertEqual(len(traces), 60)
            self.assertEqual(self.in_time(script.play, File(cells)), traces[-1])
        self.assertEqual(len(self.in_time(lambda: Script([Keep(LARGE)]) * 60)), 60)
        self.assertEqual(len(self.in_time(script.without, 30)), 59)
        self.assertEqual(self.in_time(lambda: Script([Keep(LARGE - k) for k in range(60)]).period) % LARGE, 0)

    def test_lists_of_300_items(self):
        for wrong in [[None] * 300, [Keep(1)] * 299 + [LARGE], [[1] * 300] * 300]:
            begin = time.monotonic()
            assert_raises_with(self, InvalidScript, wrong, Script, wrong)
            assert_raises_with(self, InvalidList, wrong, spread, wrong, 0)
            assert_raises_with(self, InvalidWrite, wrong[0], History, File(), wrong)
            self.assertLess(time.monotonic() - begin, MINUTE)

    def test_reasons(self):
        for script in SCRIPTS:
            for cell in [0, 11, LARGE]:
                self.assertGreaterEqual(len(self.in_time(reasons, script, cell)), 1)

    def test_comparisons(self):
        for one in SCRIPTS:
            for call in [needless, keeps_holes, keeps_written]:
                self.in_time(call, one)
            for other in [one, SCRIPTS[4], Script([*one, Keep(1)][-12:])]:
                same = self.in_time(alike, one, other)
                self.assertIs(self.in_time(parting, one, other) is None, same)
                self.assertIs(self.in_time(more_file, one, other) is None, self.in_time(never_more, one, other))
                self.assertIs(self.in_time(exchangeable, one, other), alike(one + other, other + one))
        self.assertEqual(self.in_time(needless, Script([Keep(1)] * 12)), list(range(12)))

    def test_spreads(self):
        sizes = [LARGE - k for k in range(300)]
        begin, end = self.in_time(spread, sizes, LARGE)
        self.assertTrue(begin <= LARGE < end)
        for one, other in [(LARGE, LARGE - 1), (LARGE - 1, LARGE), (LARGE, 3), (3, LARGE), (1, 1)]:
            enough = self.in_time(settles, one, other)
            told = self.in_time(rounds_spread, one, other, LARGE, LARGE)
            self.assertEqual(rounds_spread(one, other, LARGE + 1, LARGE) == told, enough <= LARGE)

    def test_histories(self):
        chance = random.Random(50)
        writes = []
        for _ in range(40):
            begin = chance.randrange(300)
            writes.append((begin, "".join(chance.choices("0az", k=chance.randint(1, 300 - begin)))))
        for cells in ROWS:
            history = self.in_time(History, File(cells), writes)
            states = self.in_time(history.states)
            self.assertEqual([self.in_time(history.at, t) for t in range(41)], states)
            for t, content in enumerate(states):
                self.assertIn(t, self.in_time(history.moments_of, content))
                self.assertEqual(self.in_time(history.part, t, 40).states(), states[t:])
            copy = self.in_time(history.copy)
            self.assertTrue(self.in_time(history.__eq__, copy))

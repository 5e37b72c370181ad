"""[3]: each call within a minute up to the limits."""

import time
import unittest

from keptholes.errors import InvalidScript
from keptholes.files import File
from keptholes.steps import Dig, Full, Keep, Lean, Script
from tests.values import LARGE, assert_raises_with

MINUTE = 60
SIZES = [1, 2, 7, 299, 300, 301, 10 ** 39, LARGE]
ROWS = ["." * 300, "0" * 300, "a" * 300, "a." * 150, ".0" * 150, "a" + "." * 298 + "0"]


class Limits(unittest.TestCase):
    def in_time(self, call, *args):
        begin = time.monotonic()
        told = call(*args)
        self.assertLess(time.monotonic() - begin, MINUTE)
        return told

    def test_files(self):
        for cells in ROWS:
            file = self.in_time(File, cells)
            self.assertEqual(len(self.in_time(file.stretches)), len([p for p in cells.split(".") if p]))
            self.assertEqual(self.in_time(file.cut, 299).cells, cells[:299])
            self.assertEqual(self.in_time(File().grown, 300).cells, "." * 300)
            self.assertEqual("".join(self.in_time(list, file)), cells)
            for size in SIZES:
                self.assertEqual(self.in_time(file.punched, 0, 300, size).cells, "." * 300)

    def test_steps(self):
        for cells in ROWS:
            for size in SIZES:
                for kind in [Keep, Lean, Dig]:
                    made = self.in_time(kind(size).play, File(cells))
                    self.assertEqual(made.content, File(cells).content)

    def test_scripts(self):
        kinds = [Keep, Lean, Dig]
        steps = [kinds[k % 3](SIZES[k % len(SIZES)]) for k in range(59)] + [Full()]
        script = self.in_time(Script, steps)
        for cells in ROWS:
            traces = self.in_time(script.traces, File(cells))
            self.assertEqual(len(traces), 60)
            self.assertEqual(self.in_time(script.play, File(cells)), traces[-1])
        self.assertEqual(len(self.in_time(lambda: Script([Keep(LARGE)]) * 60)), 60)
        self.assertEqual(len(self.in_time(script.without, 30)), 59)
        self.assertEqual(self.in_time(lambda: Script([Keep(LARGE - k) for k in range(60)]).period) % LARGE, 0)

    def test_lists_of_300_items(self):
        for wrong in [[None] * 300, [Keep(1)] * 299 + [LARGE], [[1] * 300] * 300]:
            begin = time.monotonic()
            assert_raises_with(self, InvalidScript, wrong, Script, wrong)
            self.assertLess(time.monotonic() - begin, MINUTE)

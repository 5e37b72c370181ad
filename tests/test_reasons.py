"""[24] and [30]: reasons."""

import random
import unittest

from keptholes.errors import InvalidNumber, InvalidScript
from keptholes.files import File
from keptholes.reasons import reasons
from keptholes.steps import Dig, Full, Keep, Lean, Script
from tests.values import (
    LARGE, assert_raises_with, divisors, no_numbers, no_scripts, rows, rows_of, some_row, some_script,
)


def fixed():
    """Scripts whose least reasons have from none to three cells."""
    return [
        Script(), Script([Full()]), Script([Keep(2)]), Script([Lean(2)]), Script([Dig(2)]), Script([Dig(1)]),
        Script([Keep(2), Dig(4)]), Script([Full(), Dig(3)]), Script([Keep(3), Keep(2)]), Script([Dig(3), Keep(2)]),
        Script([Keep(2), Dig(3), Keep(2), Dig(1)]), Script([Lean(3), Keep(2), Dig(3)]),
        Script([Dig(2), Keep(3), Dig(2)]), Script([Keep(6), Dig(2), Keep(3), Dig(6)]),
    ]


def below(row):
    """All rows with a written cell of a row left out, or with a blank instead of a sign."""
    for k, cell in enumerate(row):
        for less in {"a": "0.", "0": ".", ".": ""}[cell]:
            yield row[:k] + less + row[k + 1:]


def told(row):
    """The signs and the blanks of a row."""
    return [k for k, cell in enumerate(row) if cell == "a"], [k for k, cell in enumerate(row) if cell == "0"]


def row_of(reason, length):
    signs, blanks = reason
    return "".join("a" if k in signs else "0" if k in blanks else "." for k in range(length))


def moved(found, far):
    return [([k + far for k in signs], [k + far for k in blanks]) for signs, blanks in found]


def holds(reason, row):
    signs, blanks = reason
    return (
        all(k < len(row) and row[k] not in ".0" for k in signs)
        and all(k < len(row) and row[k] != "." for k in blanks)
    )


def by_the_rule(script):
    """For each cell of the first stretch, the least of all rows of one stretch behind which it is written."""
    length = script.period
    after = {row: script.play(File(row)).cells for row in rows_of(length)}
    found = [[] for _ in range(length)]
    for row, made in after.items():
        for cell in range(length):
            if made[cell] != "." and all(after[less][cell] == "." for less in below(row)):
                found[cell].append(told(row))
    return [sorted(row) for row in found]


class Rule(unittest.TestCase):
    def check(self, script):
        with self.subTest(list(script)):
            least = by_the_rule(script)
            self.assertEqual([reasons(script, cell) for cell in range(script.period)], least)

    def test_fixed_scripts(self):
        for script in fixed():
            self.check(script)

    def test_many_scripts_of_small_sizes(self):
        chance = random.Random(30)
        for period, times in [(2, 20), (3, 20), (4, 40), (6, 80), (8, 4)]:
            for _ in range(times):
                self.check(some_script(chance, divisors(period), 12))

    def test_scripts_with_more_steps_that_dig(self):
        chance = random.Random(31)
        for _ in range(20):
            parts = [some_script(chance, [1, 2, 3, 6], 6) for _ in range(3)]
            self.check(parts[0] + parts[1] + parts[2])

    def test_files_of_all_lengths(self):
        # Also files that end within a stretch, or go on behind it.
        chance = random.Random(32)
        scripts = [script for script in fixed() if script.period <= 4]
        scripts += [some_script(chance, divisors(period), 8) for period in [2, 3, 4] for _ in range(5)]
        for script in scripts:
            found = [reasons(script, cell) for cell in range(7)]
            for row in rows(7 if script.period > 2 else 5):
                made = script.play(File(row)).cells
                for cell in range(len(row)):
                    self.assertIs(made[cell] != ".", any(holds(reason, row) for reason in found[cell]))

    def test_sizes_up_to_a_multiple_of_24(self):
        chance = random.Random(33)
        for period in [12, 16, 18, 20, 24]:
            for _ in range(6):
                script = some_script(chance, divisors(period), 12)
                length = script.period
                found = [reasons(script, cell) for cell in range(length)]
                for cell in chance.sample(range(length), min(length, 3)):
                    for reason in chance.sample(found[cell], min(len(found[cell]), 20)):
                        row = row_of(reason, length)
                        self.assertNotEqual(script.play(File(row)).cells[cell], ".")
                        for less in below(row):
                            self.assertEqual(script.play(File(less)).cells[cell], ".")
                for _ in range(20):
                    row = some_row(chance, length)
                    made = script.play(File(row)).cells
                    for cell in range(length):
                        self.assertIs(made[cell] != ".", any(holds(reason, row) for reason in found[cell]))

    def test_never_more_than_three_cells_each_once(self):
        chance = random.Random(34)
        for _ in range(20):
            script = some_script(chance, divisors(24), 12)
            for cell in range(script.period):
                for signs, blanks in reasons(script, cell):
                    self.assertLessEqual(len(signs) + len(blanks), 3)
                    self.assertEqual(len({*signs, *blanks}), len(signs) + len(blanks))
                    self.assertEqual((signs, blanks), (sorted(signs), sorted(blanks)))


class Examples(unittest.TestCase):
    def test_the_example_of_the_document(self):
        self.assertEqual(
            reasons(Script([Keep(2), Dig(4)]), 0),
            [([0], []), ([1], []), ([2], [0]), ([2], [1]), ([3], [0]), ([3], [1])],
        )

    def test_simple_scripts(self):
        self.assertEqual(reasons(Script(), 5), [([], [5])])
        self.assertEqual(reasons(Script([Full()]), 5), [([], [])])
        self.assertEqual(reasons(Script([Keep(3)]), 5), [([], [3]), ([], [4]), ([], [5])])
        self.assertEqual(reasons(Script([Lean(3)]), 5), [([3], []), ([4], []), ([5], [])])
        self.assertEqual(reasons(Script([Dig(2)]), 5), [([4], [5]), ([5], [])])
        self.assertEqual(reasons(Script([Full(), Keep(24)]), 23), [([], [])])

    def test_three_cells(self):
        # A blank in cell 3 needs a sign in its own block of 3 at first, and one in the block of cell 2 at last.
        self.assertEqual(reasons(Script([Dig(3), Keep(2), Dig(3)]), 2), [
            ([0], [2]), ([0, 3], []), ([0, 4], [3]), ([0, 5], [3]), ([1], [2]), ([1, 3], []), ([1, 4], [3]),
            ([1, 5], [3]), ([2], []),
        ])


class Far(unittest.TestCase):
    def test_cells_of_later_stretches(self):
        chance = random.Random(35)
        scripts = [*fixed(), *[some_script(chance, divisors(period), 12) for period in [5, 6, 7, 12, 24]]]
        for script in scripts:
            length = script.period
            for times in [1, 2, 7, 10 ** 20 + 3, (LARGE - length) // length]:
                for cell in {0, 1 % length, length // 2, length - 1}:
                    far = times * length
                    self.assertEqual(reasons(script, far + cell), moved(reasons(script, cell), far))

    def test_a_cell_of_forty_figures(self):
        far = 10 ** 39
        self.assertEqual(reasons(Script([Keep(2), Dig(4)]), far), moved(reasons(Script([Keep(2), Dig(4)]), 0), far))
        self.assertEqual(reasons(Script([Keep(3)]), LARGE), [([], [LARGE]), ([], [LARGE + 1]), ([], [LARGE + 2])])
        self.assertEqual(reasons(Script(), LARGE), [([], [LARGE])])
        self.assertEqual(reasons(Script([Full()]), LARGE), [([], [])])


class Told(unittest.TestCase):
    def test_the_list_is_ascending(self):
        chance = random.Random(36)
        for _ in range(20):
            script = some_script(chance, divisors(12), 12)
            for cell in range(12):
                found = reasons(script, cell)
                self.assertIs(type(found), list)
                self.assertEqual(found, sorted(found))
                self.assertTrue(all(type(item) is tuple and len(item) == 2 for item in found))

    def test_each_list_is_new(self):
        script = Script([Keep(2), Dig(4)])
        first, second = reasons(script, 1), reasons(script, 1)
        lists = [first, second, *[part for reason in [*first, *second] for part in reason]]
        self.assertEqual(len({id(part) for part in lists}), len(lists))
        kept = [(list(signs), list(blanks)) for signs, blanks in first]
        for part in lists[2:]:
            part.append(9)
        first.clear()
        self.assertEqual(reasons(script, 1), kept)

    def test_arguments_by_name(self):
        script = Script([Keep(2), Dig(4)])
        for cell in range(5):
            self.assertEqual(reasons(cell=cell, script=script), reasons(script, cell))
            self.assertEqual(reasons(script, cell=cell), reasons(script, cell))


class Wrong(unittest.TestCase):
    def test_what_is_no_script(self):
        for value in [*no_scripts(), [Full()]]:
            with self.subTest(value=value):
                assert_raises_with(self, InvalidScript, value, reasons, value, 0)
                assert_raises_with(self, InvalidScript, value, reasons, cell=0, script=value)

    def test_what_is_no_cell(self):
        for script in [Script(), Script([Keep(2)])]:
            for value in [*no_numbers(), -1, -LARGE]:
                with self.subTest(value=value):
                    assert_raises_with(self, InvalidNumber, value, reasons, script, value)
                    assert_raises_with(self, InvalidNumber, value, reasons, cell=value, script=script)

    def test_the_script_is_looked_at_first(self):
        for value in no_scripts():
            for cell in [-1, None, value]:
                assert_raises_with(self, InvalidScript, value, reasons, value, cell)
                assert_raises_with(self, InvalidScript, value, reasons, cell=cell, script=value)

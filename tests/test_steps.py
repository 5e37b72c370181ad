"""[20] and [21]: steps."""

import unittest

from keptholes.errors import InvalidFile, InvalidNumber
from keptholes.files import File
from keptholes.steps import Dig, Full, Keep, Lean, Step
from tests.values import LARGE, anything, assert_raises_with, no_files, no_numbers, rows

SIZED = [Keep, Lean, Dig]


def told_block(kind, block):
    """What [21] says of the cells of a block."""
    filled = block.replace(".", "0")
    holes = "." * len(block)
    signs = [cell for cell in block if cell.isalpha()]
    if kind is Keep:
        return block if block == holes else filled
    if kind is Lean:
        return filled if signs else holes
    return block if signs else holes


def told_play(kind, size, cells):
    made = ""
    while len(made) < len(cells):
        made += told_block(kind, cells[len(made):len(made) + size])
    return made


class Classes(unittest.TestCase):
    def test_steps_are_derived_directly_from_step(self):
        for kind in [Full, *SIZED]:
            self.assertEqual(kind.__bases__, (Step,))

    def test_there_are_no_other_steps(self):
        with self.assertRaises(TypeError):
            Step()

    def test_size(self):
        for kind in SIZED:
            for size in [1, 2, 300, LARGE]:
                self.assertEqual(kind(size).size, size)
                self.assertEqual(kind(size=size).size, size)

    def test_sizes_below_1(self):
        for kind in SIZED:
            for size in [0, -1, -LARGE]:
                assert_raises_with(self, InvalidNumber, size, kind, size)
                assert_raises_with(self, InvalidNumber, size, kind, size=size)

    def test_sizes_that_are_no_numbers(self):
        for kind in SIZED:
            for value in no_numbers():
                with self.subTest(kind=kind, value=value):
                    assert_raises_with(self, InvalidNumber, value, kind, value)
                    assert_raises_with(self, InvalidNumber, value, kind, size=value)

    def test_the_size_stays(self):
        for kind in SIZED:
            step = kind(3)
            step.play(File("a..b"))
            with self.assertRaises(AttributeError):
                step.size = 4
            self.assertEqual(step.size, 3)


class Equal(unittest.TestCase):
    def test_steps_are_equal_if_class_and_size_are(self):
        def made():
            return [Full(), *[kind(size) for kind in SIZED for size in [1, 2, 4, LARGE]]]
        for at, one in enumerate(made()):
            for other, two in enumerate(made()):
                self.assertIs(one == two, at == other)
                self.assertIs(one != two, at != other)

    def test_a_step_is_not_equal_to_any_other_object(self):
        class Sly:
            size = 1

            def __eq__(self, other):
                return True
        for step in [Full(), *[kind(1) for kind in SIZED]]:
            others = [value for value in anything() if not isinstance(value, Step)]
            for other in [*others, [step], Sly()]:
                with self.subTest(step=step, other=other):
                    self.assertIs(step == other, False)
                    self.assertIs(step != other, True)


class Played(unittest.TestCase):
    def test_full(self):
        for cells in rows(4, ".0ab"):
            self.assertEqual(Full().play(File(cells)), File(cells.replace(".", "0")))
        self.assertEqual(Full().play(File("." * 300)), File("0" * 300))

    def test_steps_with_sizes_on_all_small_files(self):
        for kind in SIZED:
            for size in [1, 2, 3, 4, 5, 6, 7, 300, LARGE]:
                step = kind(size)
                for cells in rows(6):
                    self.assertEqual(step.play(File(cells)).cells, told_play(kind, size, cells), (kind, size, cells))

    def test_last_blocks_that_are_cut_off(self):
        told = {Keep: "000a0000.", Lean: "000a.....", Dig: "...a....."}
        for kind, cells in told.items():
            self.assertEqual(kind(4).play(File("...a..0..")).cells, cells)
            self.assertEqual(kind(3).play(File("......a")).cells, "......a")
        self.assertEqual(Keep(3).play(File(".......0")).cells, "......00")
        self.assertEqual(Lean(3).play(File(".......0")).cells, "........")
        self.assertEqual(Dig(3).play(File("a......0")).cells, "a.......")
        self.assertEqual(Lean(3).play(File("0......z")).cells, "......0z")

    def test_sizes_of_forty_figures(self):
        for size in [10 ** 39, LARGE]:
            self.assertEqual(Keep(size).play(File(".0.")).cells, "000")
            self.assertEqual(Keep(size).play(File("...")).cells, "...")
            self.assertEqual(Lean(size).play(File(".0.")).cells, "...")
            self.assertEqual(Lean(size).play(File(".0b")).cells, "00b")
            self.assertEqual(Dig(size).play(File(".0.")).cells, "...")
            self.assertEqual(Dig(size).play(File(".0b")).cells, ".0b")

    def test_every_letter_is_a_sign(self):
        for sign in "abcdefghijklmnopqrstuvwxyz":
            for kind in SIZED:
                self.assertEqual(kind(2).play(File(sign + "0")).cells, sign + "0")

    def test_files_without_cells(self):
        for step in [Full(), *[kind(size) for kind in SIZED for size in [1, 3, LARGE]]]:
            self.assertEqual(step.play(File()), File())

    def test_neither_length_nor_content_changes(self):
        for step in [Full(), *[kind(size) for kind in SIZED for size in [1, 2, 3, 9]]]:
            for cells in rows(4, ".0az"):
                made = step.play(File(cells))
                self.assertEqual(len(made), len(cells))
                self.assertEqual(made.content, File(cells).content)

    def test_the_file_itself_stays(self):
        for step in [Full(), Keep(2), Lean(2), Dig(2)]:
            file = File("a..0..")
            self.assertEqual(step.play(file=file), step.play(file))
            self.assertEqual(file.cells, "a..0..")

    def test_what_is_no_file(self):
        for step in [Full(), Keep(2), Lean(2), Dig(2)]:
            for value in no_files():
                with self.subTest(step=step, value=value):
                    assert_raises_with(self, InvalidFile, value, step.play, value)
                    assert_raises_with(self, InvalidFile, value, step.play, file=value)

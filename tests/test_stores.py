"""[80]: stores."""

import random
import unittest

from keptholes.errors import InvalidFile, InvalidNumber, InvalidScript, InvalidWrite
from keptholes.files import File
from keptholes.steps import Dig, Full, Keep, Lean, Script
from keptholes.stores import Store
from tests.values import (
    LARGE, assert_raises_with, no_files, no_numbers, no_scripts, no_strings, some_row,
)

CELLS = "ab0..c."


def changes():
    """A change of each kind: its name, its arguments, and what becomes of CELLS."""
    return [
        ("write", (2, "d0"), "abd0.c."), ("write", (3, "00"), "ab000c."), ("write", (0, "zzzzzzz"), "zzzzzzz"),
        ("punch", (1, 6, 2), "a0....."), ("punch", (4, 7, 2), "ab0...."), ("punch", (0, 7, 1), "......."),
        ("punch", (1, 3, 300), "a00..c."), ("cut", (3,), "ab0"), ("cut", (0,), ""), ("grow", (9,), "ab0..c..."),
        ("run", (Script([Full()]),), "ab000c0"), ("run", (Script([Keep(2), Dig(3)]),), "ab000c."),
        ("run", (Script([Lean(2)]),), "ab..0c."),
    ]


def idle():
    """Changes that make nothing different."""
    return [
        ("write", (0, "a")), ("write", (1, "b0")), ("punch", (2, 3, 4)), ("punch", (3, 5, 1)), ("punch", (0, 0, 1)),
        ("punch", (7, 7, 9)), ("cut", (7,)), ("grow", (7,)), ("run", (Script(),)), ("run", (Script([Keep(1)]),)),
    ]


def some_change(chance, file):
    """A change of a file of any kind: its name, its arguments, and the file that it makes."""
    length = len(file)
    kind = chance.choice(["write", "write", "punch", "cut", "grow", "run"])
    if kind == "write" and length:
        begin = chance.randrange(length)
        text = "".join(chance.choices("0ab", k=chance.randint(1, length - begin)))
        return kind, (begin, text), File(file.cells[:begin] + text + file.cells[begin + len(text):])
    if kind == "punch":
        begin, end = sorted([chance.randint(0, length), chance.randint(0, length)])
        size = chance.randint(1, 5)
        return kind, (begin, end, size), file.punched(begin, end, size)
    if kind == "run":
        script = Script([chance.choice([Keep, Lean, Dig])(chance.randint(1, 4))])
        return kind, (script,), script.play(file)
    if kind == "cut":
        return kind, (max(0, length - 1),), file.cut(max(0, length - 1))
    return "grow", (length + 2,), file.grown(length + 2)


class Made(unittest.TestCase):
    def test_a_store_has_the_file_it_is_given(self):
        for file in [File(), File("."), File(CELLS), File("0" * 300)]:
            self.assertEqual((Store(file).file, Store(file=file).file), (file, file))
            self.assertEqual(Store(file).made, 0)
            self.assertIs(type(Store(file).file), File)

    def test_without_a_file_it_has_one_without_cells(self):
        for store in [Store(), Store(None), Store(file=None)]:
            self.assertEqual((store.file, store.made), (File(), 0))

    def test_what_is_no_file(self):
        for value in no_files():
            if value is not None:
                with self.subTest(value=value):
                    assert_raises_with(self, InvalidFile, value, Store, value)
                    assert_raises_with(self, InvalidFile, value, Store, file=value)

    def test_stores_are_independent(self):
        file = File(CELLS)
        one, other = Store(file), Store(file)
        one.write(0, "z")
        self.assertEqual((one.file.cells, other.file, file), ("zb0..c.", File(CELLS), File(CELLS)))
        self.assertEqual((one.made, other.made), (1, 0))
        self.assertIs(other.back(), False)

    def test_the_file_is_changed_by_changes_alone(self):
        store = Store(File(CELLS))
        for name, value in [("file", File()), ("made", 3)]:
            with self.assertRaises(AttributeError):
                setattr(store, name, value)
        self.assertEqual((store.file, store.made), (File(CELLS), 0))


class Changes(unittest.TestCase):
    def test_each_change(self):
        for name, args, cells in changes():
            store = Store(File(CELLS))
            before = store.file
            self.assertIsNone(getattr(store, name)(*args))
            self.assertEqual((store.file, store.made), (File(cells), 1))
            self.assertEqual(before, File(CELLS))
            self.assertIs(store.back(), True)
            self.assertEqual((store.file, store.made), (File(CELLS), 0))

    def test_changes_that_make_nothing_different(self):
        store = Store(File(CELLS))
        for count, (name, args) in enumerate(idle(), start=1):
            self.assertIsNone(getattr(store, name)(*args))
            self.assertEqual((store.file, store.made), (File(CELLS), count))
        for count in range(len(idle()) - 1, -1, -1):
            self.assertIs(store.back(), True)
            self.assertEqual((store.file, store.made), (File(CELLS), count))
        self.assertIs(store.back(), False)

    def test_one_change_behind_another_and_back(self):
        chance = random.Random(80)
        for _ in range(60):
            store = Store(File(some_row(chance, chance.randint(0, 8))))
            self.check_walk(chance, store)

    def check_walk(self, chance, store):
        files = [store.file]
        for _ in range(40):
            if chance.random() < 0.3:
                self.assertIs(store.back(), len(files) > 1)
                files = files[:-1] or files
            else:
                name, args, file = some_change(chance, store.file)
                self.assertIsNone(getattr(store, name)(*args))
                files.append(file)
            self.assertEqual((store.file, store.made), (files[-1], len(files) - 1))

    def test_back_where_there_is_nothing_to_undo(self):
        store = Store(File(CELLS))
        for _ in range(3):
            self.assertIs(store.back(), False)
            self.assertEqual((store.file, store.made), (File(CELLS), 0))
        store.cut(2)
        self.assertEqual((store.back(), store.back(), store.made), (True, False, 0))

    def test_what_a_write_is_undone_to(self):
        store = Store(File("..0a"))
        store.write(0, "0000")
        self.assertEqual(store.file.cells, "0000")
        store.back()
        self.assertEqual(store.file.cells, "..0a")

    def test_arguments_by_name_in_another_order(self):
        names = {
            "write": ["begin", "text"], "punch": ["begin", "end", "size"], "cut": ["length"], "grow": ["length"],
            "run": ["script"],
        }
        for name, args, cells in changes():
            store = Store(File(CELLS))
            getattr(store, name)(**dict(list(zip(names[name], args))[::-1]))
            self.assertEqual((store.file, store.made), (File(cells), 1))


class WrongArguments(unittest.TestCase):
    def check_unchanged(self, store):
        self.assertEqual((store.file, store.made), (File("zb0..c."), 1))

    def store(self):
        store = Store(File(CELLS))
        store.write(0, "z")
        return store

    def check_write(self, store, begin, text):
        for call in [lambda: store.write(begin, text), lambda: store.write(text=text, begin=begin)]:
            with self.assertRaises(InvalidWrite) as caught:
                call()
            value = caught.exception.value
            self.assertEqual((type(caught.exception), type(value), len(value)), (InvalidWrite, tuple, 2))
            self.assertIs(value[0], begin)
            self.assertIs(value[1], text)
            self.check_unchanged(store)

    def test_what_is_no_write_that_fits(self):
        store = self.store()
        for begin in [*no_numbers(), -1, -LARGE, 7, LARGE]:
            for text in ["a", "0a", "", None]:
                self.check_write(store, begin, text)
        for text in [*no_strings(), "", ".", "a.c", "A", "1", "a b", "a\n", "a" * 8]:
            for begin in [0, 6, -1, "a"]:
                self.check_write(store, begin, text)
        for begin, text in [(6, "ab"), (3, "abcde"), (1, "abcdefg")]:
            self.check_write(store, begin, text)

    def test_what_cannot_be_punched(self):
        store = self.store()
        for value in [*no_numbers(), -1, -LARGE, 8, LARGE]:
            assert_raises_with(self, InvalidNumber, value, store.punch, value, value, value)
            assert_raises_with(self, InvalidNumber, value, store.punch, value, 9, 0)
            assert_raises_with(self, InvalidNumber, value, store.punch, 2, value, 0)
            assert_raises_with(self, InvalidNumber, value, store.punch, size=[], end=value, begin=0)
        for value in [*no_numbers(), 0, -1, -LARGE]:
            assert_raises_with(self, InvalidNumber, value, store.punch, 0, 7, value)
            assert_raises_with(self, InvalidNumber, value, store.punch, 2, 2, size=value)
        assert_raises_with(self, InvalidNumber, 2, store.punch, 3, 2, 1)
        self.check_unchanged(store)

    def test_lengths_that_cannot_be(self):
        store = self.store()
        for value in [*no_numbers(), -1, -LARGE]:
            for call in [store.cut, store.grow]:
                assert_raises_with(self, InvalidNumber, value, call, value)
                assert_raises_with(self, InvalidNumber, value, call, length=value)
        assert_raises_with(self, InvalidNumber, 8, store.cut, 8)
        assert_raises_with(self, InvalidNumber, LARGE, store.cut, LARGE)
        assert_raises_with(self, InvalidNumber, 6, store.grow, 6)
        assert_raises_with(self, InvalidNumber, 0, store.grow, 0)
        self.check_unchanged(store)

    def test_what_is_no_script(self):
        store = self.store()
        for value in no_scripts():
            with self.subTest(value=value):
                assert_raises_with(self, InvalidScript, value, store.run, value)
                assert_raises_with(self, InvalidScript, value, store.run, script=value)
        self.check_unchanged(store)

    def test_what_is_no_size_of_a_copier(self):
        store = self.store()
        for value in [*no_numbers(), 0, -1, -LARGE]:
            with self.subTest(value=value):
                assert_raises_with(self, InvalidNumber, value, store.copier, value)
                assert_raises_with(self, InvalidNumber, value, store.copier, down=True, size=value)
        # No copier has been made, so the store is not busy.
        store.cut(7)
        self.assertEqual((store.back(), store.made), (True, 1))

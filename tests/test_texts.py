"""[90] and [91]: texts."""

import random
import unittest

from keptholes.errors import InvalidHistory, InvalidScript, InvalidText
from keptholes.files import File
from keptholes.histories import History
from keptholes.steps import Dig, Full, Keep, Lean, Script
from keptholes.texts import read_history, read_script, write_history, write_script
from tests.values import LARGE, no_histories, no_scripts, no_strings, some_history

# What cannot stand for a size of 4, nor for a begin of 4.
NO_FIGURES = ["", " ", "04", "00", "+4", "-4", "4.", "4.0", "0x4", "1e1", "4_0", "4,0", "a", "four", "4a", "-0", "~"]


def scripts():
    """Scripts of all kinds and their texts."""
    return [
        (Script(), ""), (Script([Full()]), "full"), (Script([Keep(4)]), "keep 4"), (Script([Lean(4)]), "lean 4"),
        (Script([Dig(4)]), "dig 4"), (Script([Keep(4), Full()]), "keep 4\nfull"),
        (Script([Full()] * 3), "full\nfull\nfull"),
        (Script([Dig(1), Lean(10), Keep(300), Full()]), "dig 1\nlean 10\nkeep 300\nfull"),
        (Script([Keep(LARGE), Dig(10 ** 39)]), "keep " + "9" * 40 + "\ndig 1" + "0" * 39),
    ]


def histories():
    """Histories of all kinds and their texts."""
    return [
        (History(File()), ""), (History(File(".")), "."), (History(File("a.0")), "a.0"),
        (History(File("a.0"), [(0, "b")]), "a.0\n0 b"), (History(File("."), [(0, "0")] * 2), ".\n0 0\n0 0"),
        (History(File("aa.."), [(0, "b"), (2, "c")]), "aa..\n0 b\n2 c"),
        (History(File("." * 300), [(299, "z"), (0, "0" * 300)]), "." * 300 + "\n299 z\n0 " + "0" * 300),
        (History(File("." * 300), [(100, "0a0")]), "." * 300 + "\n100 0a0"),
    ]


def no_steps():
    """Lines that tell no step."""
    words = [
        "", " ", "Full", "FULL", "full ", " full", "full 4", "fulls", "ful", "fill", "none", "4", "keep", "lean", "dig",
        "keep 0", "lean 0", "dig 0", "keep  4", "lean  4", "dig  4", " keep 4", " dig 4", "keep 4 ", "lean 4 ",
        "dig 4 ", "keep4", "dig4", "Keep 4", "LEAN 4", "Dig 4", "keeps 4", "kee 4", "dug 4", "step 4", "keep 4 4",
        "dig 4 full", "4 keep", "keep-4", "keep,4", "keep: 4", "keep\\n4", "~", "full;", "keep 4;", "a", ".", "0",
        "0 a", "Script",
    ]
    return [*words, *[f"{word} {figures}" for word in ("keep", "lean", "dig") for figures in NO_FIGURES]]


def no_writes():
    """Lines that tell no write that fits six cells."""
    words = [
        "", " ", "a", "abc", "0", "4", "0 ", "4 ", " a", "0  a", " 0 a", "0 a ", "0 a b", "0a", "0 A", "0 .", "0 a.b",
        "0 1", "0 -", "0 a0~", "a 0", "0\\ta", "0,a", "6 a", "5 ab", "0 aaaaaaa", "7 a", "300 a", "10 a", f"{LARGE} a",
        f"{LARGE} {'a' * 300}", "keep 4", "full", "......", "~", "A 0", "0 'a'",
    ]
    return [*words, *[f"{figures} a" for figures in NO_FIGURES], *[f"{figures} 0" for figures in NO_FIGURES]]


class Texts(unittest.TestCase):
    def check_spot(self, spot, call, *args, **more):
        with self.assertRaises(InvalidText) as caught:
            call(*args, **more)
        self.assertIs(type(caught.exception), InvalidText)
        self.assertEqual(caught.exception.spot, spot)
        self.assertIs(type(caught.exception.spot), type(spot))


class Written(unittest.TestCase):
    def test_scripts(self):
        for script, text in scripts():
            with self.subTest(text):
                self.assertEqual(write_script(script), text)
                self.assertEqual(write_script(script=script), text)

    def test_histories(self):
        for history, text in histories():
            with self.subTest(text):
                self.assertEqual(write_history(history), text)
                self.assertEqual(write_history(history=history), text)

    def test_a_history_that_is_lengthened(self):
        history = History(File("a."))
        copy = history.copy()
        self.assertEqual(write_history(history), "a.")
        history += (1, "b")
        self.assertEqual((write_history(history), write_history(copy)), ("a.\n1 b", "a."))
        history += (0, "00")
        self.assertEqual((write_history(history), write_history(copy)), ("a.\n1 b\n0 00", "a."))

    def test_what_is_no_script(self):
        for value in no_scripts():
            with self.subTest(value=value):
                for call in [lambda: write_script(value), lambda: write_script(script=value)]:
                    with self.assertRaises(InvalidScript) as caught:
                        call()
                    self.assertIs(type(caught.exception), InvalidScript)
                    self.assertIs(caught.exception.value, value)

    def test_what_is_no_history(self):
        for value in no_histories():
            with self.subTest(value=value):
                for call in [lambda: write_history(value), lambda: write_history(history=value)]:
                    with self.assertRaises(InvalidHistory) as caught:
                        call()
                    self.assertIs(type(caught.exception), InvalidHistory)
                    self.assertIs(caught.exception.value, value)

    def test_the_example_of_the_document(self):
        self.assertEqual(write_history(History(File("aa.."), [(0, "b"), (2, "c")])), "aa..\n0 b\n2 c")
        self.assertEqual(write_script(Script([Keep(4), Full()])), "keep 4\nfull")


class ReadScripts(Texts):
    def test_what_is_written_is_read(self):
        for script, text in scripts():
            with self.subTest(text):
                for told in [read_script(text), read_script(text=text)]:
                    self.assertIs(type(told), Script)
                    self.assertEqual(told, script)
                    self.assertEqual(write_script(told), text)

    def test_all_sizes(self):
        for size in [*range(1, 120), 10 ** 20, LARGE]:
            for word, step in [("keep", Keep(size)), ("lean", Lean(size)), ("dig", Dig(size))]:
                self.assertEqual(read_script(f"{word} {size}"), Script([step]))
                self.assertEqual(write_script(Script([step])), f"{word} {size}")

    def test_what_is_no_string(self):
        for value in no_strings():
            with self.subTest(value=value):
                self.check_spot(None, read_script, value)
                self.check_spot(None, read_script, text=value)

    def test_lines_that_cannot_stand_there(self):
        for line in no_steps():
            with self.subTest(line):
                if line:
                    self.check_spot(1, read_script, line)
                    self.check_spot(1, read_script, text=line)
                for text, spot in [
                    (f"{line}\nfull", 1), (f"full\n{line}", 2), (f"keep 4\n{line}\ndig 2", 2), (f"{line}\n{line}", 1),
                    (f"full\nfull\nlean 3\n{line}\nfill\n", 4),
                ]:
                    self.check_spot(spot, read_script, text)

    def test_empty_lines(self):
        self.assertEqual(read_script(""), Script())
        for text, spot in [
            ("\n", 1), ("\n\n", 1), ("\nfull", 1), ("full\n", 2), ("full\n\n", 2), ("full\n\nfull", 2),
            ("full\nkeep 4\n", 3), ("keep 0\n", 1), ("full\n\nkeep 0", 2),
        ]:
            with self.subTest(text):
                self.check_spot(spot, read_script, text)


class ReadHistories(Texts):
    def test_what_is_written_is_read(self):
        for history, text in histories():
            with self.subTest(text):
                for told in [read_history(text), read_history(text=text)]:
                    self.assertIs(type(told), History)
                    self.assertEqual(told, history)
                    self.assertEqual(write_history(told), text)

    def test_histories_of_all_kinds(self):
        chance = random.Random(90)
        for _ in range(200):
            history = some_history(chance, 15, 10, "0abcxyz")
            told = read_history(write_history(history))
            self.assertEqual(told, history)
            self.assertEqual(told.states(), history.states())

    def test_what_is_no_string(self):
        for value in no_strings():
            with self.subTest(value=value):
                self.check_spot(None, read_history, value)
                self.check_spot(None, read_history, text=value)

    def test_first_lines_that_cannot_stand_there(self):
        for line in [" ", "1", "A", "a b", "a.0 ", " a", "0 a", "a,", "~", "full 4", "-", "keep 4", "a\\n"]:
            for text in [line, f"{line}\n", f"{line}\n0 a", f"{line}\n\nx"]:
                with self.subTest(text):
                    self.check_spot(1, read_history, text)

    def test_writes_that_cannot_stand_there(self):
        for line in no_writes():
            with self.subTest(line):
                for text, spot in [
                    (f"ab0...\n{line}", 2), (f"......\n{line}\n0 a", 2), (f"ab0...\n4 a\n{line}", 3),
                    (f"ab0...\n0 abcdef\n5 0\n{line}\n{line}", 4), (f"ab0...\n0 b\n{line}\nx", 3),
                ]:
                    self.check_spot(spot, read_history, text)

    def test_writes_that_just_fit(self):
        for line, write in [("5 a", (5, "a")), ("0 abcdef", (0, "abcdef")), ("4 00", (4, "00"))]:
            self.assertEqual(read_history(f"......\n{line}"), History(File("......"), [write]))

    def test_empty_lines(self):
        self.assertEqual(read_history(""), History(File()))
        for text, spot in [
            ("\n", 2), ("\n\n", 2), ("\n0 a", 2), ("\n0 ", 2), ("a\n", 2), ("a\n\n0 a", 2), ("a\n0 b\n", 3),
            ("a\n0 b\n\n", 3),
        ]:
            with self.subTest(text):
                self.check_spot(spot, read_history, text)

    def test_what_is_read_belongs_to_the_caller(self):
        text = "a.\n0 b"
        told = read_history(text)
        told += (1, "c")
        self.assertEqual(read_history(text), History(File("a."), [(0, "b")]))

"""[10], [11] and [12]: files."""

import string
import unittest

from keptholes.errors import InvalidFile, InvalidNumber
from keptholes.files import File
from tests.values import LARGE, anything, assert_raises_with, no_numbers, no_strings, rows

SIGNS = string.ascii_lowercase
NO_CELLS = [chr(k) for k in range(32, 127) if chr(k) not in ".0" + SIGNS] + ["\n"]


def told_stretches(cells):
    """What [11] says of stretches, from all pairs of bounds."""
    def written(k):
        return 0 <= k < len(cells) and cells[k] != "."
    return [
        (begin, end) for begin in range(len(cells)) for end in range(begin + 1, len(cells) + 1)
        if all(written(k) for k in range(begin, end)) and not written(begin - 1) and not written(end)
    ]


def told_punched(cells, begin, end, size):
    """What [12] says of punching, cell by cell."""
    made = ""
    for k, cell in enumerate(cells):
        block = [j for j in range(len(cells)) if j // size == k // size]
        if not begin <= k < end:
            made += cell
        elif all(begin <= j < end for j in block):
            made += "."
        else:
            made += "0"
    return made


class Made(unittest.TestCase):
    def test_a_file_has_the_cells_it_is_given(self):
        for cells in ["", ".", "0", "a", "z", "...", "000", "abc", "ab0..c.", "." + SIGNS + "0"]:
            with self.subTest(cells):
                self.assertEqual(File(cells).cells, cells)
                self.assertEqual(File(cells=cells).cells, cells)

    def test_without_an_argument_it_has_no_cells(self):
        self.assertEqual(File().cells, "")
        self.assertEqual(File(), File(""))

    def test_a_character_that_is_no_cell(self):
        for sign in NO_CELLS:
            for cells in [sign, sign + "a.0", "a." + sign + "0b", "a.0" + sign, "a" * 299 + sign]:
                with self.subTest(cells):
                    assert_raises_with(self, InvalidFile, cells, File, cells)
                    assert_raises_with(self, InvalidFile, cells, File, cells=cells)

    def test_what_is_no_string(self):
        for value in no_strings():
            with self.subTest(value=value):
                assert_raises_with(self, InvalidFile, value, File, value)
                assert_raises_with(self, InvalidFile, value, File, cells=value)

    def test_a_list_of_cells_is_no_string(self):
        for value in [["a", "."], ("a", "."), {"a": "."}, b"a.", list("a" * 300)]:
            with self.subTest(value=value):
                assert_raises_with(self, InvalidFile, value, File, value)


class Told(unittest.TestCase):
    def test_content(self):
        told = {"": "", ".": "0", "...": "000", "a0.": "a00", "ab0..c.": "ab000c0", "xyz": "xyz"}
        for cells, content in told.items():
            with self.subTest(cells):
                self.assertEqual(File(cells).content, content)

    def test_room(self):
        for cells, room in {"": 0, ".": 0, "...": 0, "0": 1, "a": 1, "ab0..c.": 4, "a0z": 3}.items():
            with self.subTest(cells):
                self.assertEqual(File(cells).room, room)

    def test_length(self):
        for length in [0, 1, 2, 299, 300]:
            for cell in ".0a":
                self.assertEqual(len(File(cell * length)), length)

    def test_each_cell(self):
        for cells in ["a", "ab0..c.", "." * 300]:
            self.assertEqual([File(cells)[k] for k in range(len(cells))], list(cells))

    def test_cells_that_are_not_there(self):
        for cells in ["", "a", "ab0..c."]:
            for k in [-1, -len(cells), -LARGE, len(cells), len(cells) + 1, LARGE]:
                if not 0 <= k < len(cells):
                    with self.subTest(cells=cells, k=k):
                        assert_raises_with(self, InvalidNumber, k, File(cells).__getitem__, k)

    def test_cells_that_no_number_names(self):
        for value in no_numbers():
            with self.subTest(value=value):
                assert_raises_with(self, InvalidNumber, value, File("abc").__getitem__, value)

    def test_iteration_gives_the_characters(self):
        for cells in ["", ".", "ab0..c."]:
            file = File(cells)
            self.assertEqual(list(file), list(cells))
            self.assertEqual([(one, two) for one in file for two in file], [(p, q) for p in cells for q in cells])

    def test_stretches(self):
        told = {
            "": [], "...": [], "a": [(0, 1)], "000": [(0, 3)], "ab0..c.": [(0, 3), (5, 6)], ".0.a.": [(1, 2), (3, 4)],
            "..ab": [(2, 4)], "a.b": [(0, 1), (2, 3)],
        }
        for cells, stretches in told.items():
            with self.subTest(cells):
                self.assertEqual(File(cells).stretches(), stretches)

    def test_stretches_of_all_small_files(self):
        for cells in rows(6):
            self.assertEqual(File(cells).stretches(), told_stretches(cells), cells)

    def test_stretches_are_a_new_list_of_tuples(self):
        file = File("a.b")
        first = file.stretches()
        self.assertEqual([type(item) for item in first], [tuple, tuple])
        first.clear()
        self.assertEqual(file.stretches(), [(0, 1), (2, 3)])
        self.assertIsNot(file.stretches(), file.stretches())

    def test_numbers_are_whole_numbers(self):
        file = File("a")
        self.assertEqual([type(n) for n in (file.room, *file.stretches()[0])], [int, int, int])


class Equal(unittest.TestCase):
    def test_files_are_equal_if_their_cells_are(self):
        some = list(rows(3))
        for one in some:
            for two in some:
                self.assertIs(File(one) == File(two), one == two)
                self.assertIs(File(one) != File(two), one != two)

    def test_a_hole_is_no_blank(self):
        self.assertNotEqual(File("a."), File("a0"))

    def test_a_file_is_not_equal_to_any_other_object(self):
        class Sly:
            def __eq__(self, other):
                return True
        for cells in ["", "a", "a0."]:
            file = File(cells)
            others = [value for value in anything() if not isinstance(value, File)]
            for other in [*others, cells, list(cells), tuple(cells), Sly()]:
                with self.subTest(cells=cells, other=other):
                    self.assertIs(file == other, False)
                    self.assertIs(file != other, True)


class Changed(unittest.TestCase):
    def test_cut(self):
        cells = "ab0..c."
        for length in range(len(cells) + 1):
            self.assertEqual(File(cells).cut(length), File(cells[:length]))
            self.assertEqual(File(cells).cut(length=length), File(cells[:length]))
        self.assertEqual(File().cut(0), File())

    def test_cut_beyond_its_bounds(self):
        for length in [-LARGE, -1, 4, 5, LARGE]:
            assert_raises_with(self, InvalidNumber, length, File("a.0").cut, length)
        assert_raises_with(self, InvalidNumber, 1, File().cut, 1)

    def test_cut_by_what_is_no_number(self):
        for value in no_numbers():
            with self.subTest(value=value):
                assert_raises_with(self, InvalidNumber, value, File("abc").cut, value)
                assert_raises_with(self, InvalidNumber, value, File("abc").cut, length=value)

    def test_grown(self):
        for cells in ["", ".", "a0.b"]:
            for more in [0, 1, 2, 250]:
                length = len(cells) + more
                self.assertEqual(File(cells).grown(length), File(cells + "." * more))
                self.assertEqual(File(cells).grown(length=length), File(cells + "." * more))

    def test_grown_beyond_its_bounds(self):
        for length in [-LARGE, -1, 0, 1, 2]:
            assert_raises_with(self, InvalidNumber, length, File("a.0").grown, length)
        assert_raises_with(self, InvalidNumber, -1, File().grown, -1)

    def test_grown_by_what_is_no_number(self):
        for value in no_numbers():
            with self.subTest(value=value):
                assert_raises_with(self, InvalidNumber, value, File("").grown, value)
                assert_raises_with(self, InvalidNumber, value, File("").grown, length=value)

    def test_punched_for_all_small_files(self):
        for cells in rows(5):
            file = File(cells)
            for end in range(len(cells) + 1):
                for begin in range(end + 1):
                    for size in range(1, len(cells) + 3):
                        made = file.punched(begin, end, size).cells
                        self.assertEqual(made, told_punched(cells, begin, end, size), (cells, begin, end, size))
            self.assertEqual(file.cells, cells)

    def test_punched_by_sizes_far_greater_than_the_file(self):
        for size in [5, 300, LARGE]:
            self.assertEqual(File("ab.c.").punched(0, 5, size).cells, ".....")
            self.assertEqual(File("ab.c.").punched(0, 4, size).cells, "0000.")
            self.assertEqual(File("ab.c.").punched(1, 5, size).cells, "a0000")
            self.assertEqual(File("ab.c.").punched(2, 2, size).cells, "ab.c.")
            self.assertEqual(File().punched(0, 0, size), File())

    def test_a_last_block_that_is_cut_off(self):
        self.assertEqual(File("abcdefgh").punched(2, 8, 3).cells, "ab0.....")
        self.assertEqual(File("abcdefgh").punched(2, 7, 3).cells, "ab0...0h")
        self.assertEqual(File("abcdefgh").punched(7, 8, 3).cells, "abcdefg0")

    def test_punched_takes_its_arguments_in_any_order_by_name(self):
        file = File("ab0..c.")
        self.assertEqual(file.punched(size=2, end=6, begin=1), file.punched(1, 6, 2))
        self.assertEqual(file.punched(1, size=2, end=6), file.punched(1, 6, 2))

    def test_punched_beyond_its_bounds(self):
        file = File("abcd")
        for begin in [-LARGE, -1, 5, LARGE]:
            assert_raises_with(self, InvalidNumber, begin, file.punched, begin, 4, 1)
        for end in [-LARGE, 1, 5, LARGE]:
            assert_raises_with(self, InvalidNumber, end, file.punched, 2, end, 1)
        for size in [-LARGE, -1, 0]:
            assert_raises_with(self, InvalidNumber, size, file.punched, 1, 2, size)

    def test_punched_by_what_is_no_number(self):
        file = File("abcd")
        for value in no_numbers():
            with self.subTest(value=value):
                assert_raises_with(self, InvalidNumber, value, file.punched, value, 4, 1)
                assert_raises_with(self, InvalidNumber, value, file.punched, 0, value, 1)
                assert_raises_with(self, InvalidNumber, value, file.punched, 0, 4, value)
                assert_raises_with(self, InvalidNumber, value, file.punched, size=value, end=4, begin=0)
        self.assertEqual(file, File("abcd"))

    def test_punched_checks_begin_then_end_then_size(self):
        file = File("abcd")
        for begin in [None, 5, -1, True, "0"]:
            for end in [None, 5, -2, True, [4], 2]:
                for size in [None, 0, True, (), 1]:
                    assert_raises_with(self, InvalidNumber, begin, file.punched, begin, end, size)
                    assert_raises_with(self, InvalidNumber, begin, file.punched, size=size, end=end, begin=begin)
        for end in [None, 5, 1, True, [4]]:
            for size in [None, 0, True, (), 1]:
                assert_raises_with(self, InvalidNumber, end, file.punched, 2, end, size)

    def test_files_never_change(self):
        file = File("a0.b.")
        file.cut(2), file.grown(9), file.punched(0, 5, 2), file.stretches(), list(file)
        self.assertEqual((file.cells, file.content, file.room, len(file)), ("a0.b.", "a00b0", 3, 5))
        for name in ["cells", "content", "room"]:
            with self.assertRaises(AttributeError):
                setattr(file, name, "x")

    def test_the_example_of_the_document(self):
        file = File("ab0..c.")
        told = [
            file.content, file.room, file.stretches(), file.punched(1, 6, 2).cells, file.punched(4, 7, 2).cells,
            File("a.c.e").punched(1, 5, 2).cells,
        ]
        self.assertEqual(told, ["ab000c0", 4, [(0, 3), (5, 6)], "a0.....", "ab0....", "a0..."])

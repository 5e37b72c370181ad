"""[50] and [51]: histories."""

import random
import unittest

from keptholes.errors import InvalidContent, InvalidFile, InvalidList, InvalidNumber, InvalidWrite
from keptholes.files import File
from keptholes.histories import History
from tests.values import LARGE, anything, assert_raises_with, no_files, no_numbers, no_strings

CELLS = "a.0b"


def three():
    return [(0, "b"), (3, "c"), (1, "0d")]


def contents():
    """What a history of CELLS with the writes of three() reads as at each moment."""
    return ["a00b", "b00b", "b00c", "b0dc"]


def no_writes():
    """Values that are no writes that fit a file of four cells."""
    odd = [
        (0, ""), (4, ""), (4, "a"), (3, "ab"), (0, "abcde"), (-1, "a"), (-1, "abc"), (LARGE, "a"), (-LARGE, "a"),
        (0, "."), (0, "a.c"), (0, "A"), (0, "1"), (0, " "), (0, "a\n"), (0, "a~"), [0, "a"], ("a", 0), (0, "a", 1),
        (0,), (), ((0, "a"),), (True, "a"), (False, "a"), (None, "a"), ("0", "a"), ([0], "a"), (0, None), (0, 1),
        (0, ["a"]), (0, ("a",)), (0, File("a")), (0, ("a", "b")), (History(File("a")), "a"),
    ]
    return [*odd, *[value for value in anything() if value != (0, "a")]]


def some_history(chance):
    """A history and the lists of the characters at each moment, made cell by cell."""
    length = chance.randint(0, 12)
    file = File("".join(chance.choices(".0abc", k=length)))
    writes = []
    cells = ["0" if cell == "." else cell for cell in file]
    moments = [list(cells)]
    for _ in range(chance.randint(0, 8) if length else 0):
        begin = chance.randrange(length)
        text = "".join(chance.choices("0abc", k=chance.randint(1, length - begin)))
        writes.append((begin, text))
        for at, cell in enumerate(text):
            cells[begin + at] = cell
        moments.append(list(cells))
    return file, writes, moments


class Made(unittest.TestCase):
    def test_a_history_has_the_file_and_the_writes_it_is_given(self):
        for writes in [[], [(0, "a")], three(), three() * 10]:
            history = History(File(CELLS), writes)
            self.assertEqual(history.file, File(CELLS))
            self.assertEqual(list(history), writes)
            self.assertEqual(len(history), len(writes))
            self.assertEqual([history[k] for k in range(len(writes))], writes)
            self.assertEqual(History(writes=writes, file=File(CELLS)), history)

    def test_without_writes(self):
        for history in [History(File(CELLS)), History(File(CELLS), None), History(File(CELLS), [])]:
            self.assertEqual((len(history), list(history), history.states()), (0, [], ["a00b"]))
            self.assertEqual(history, History(file=File(CELLS), writes=None))

    def test_writes_that_just_fit(self):
        for write in [(0, "abcd"), (3, "z"), (0, "0"), (2, "00")]:
            self.assertEqual(list(History(File(CELLS), [write])), [write])

    def test_a_file_without_cells(self):
        history = History(File())
        self.assertEqual((history.states(), history.at(0), history.moments_of("")), ([""], "", [0]))
        self.assertEqual(history.part(0, 0), history)
        for write in [(0, "a"), (0, ""), (0, "0")]:
            assert_raises_with(self, InvalidWrite, write, History, File(), [write])

    def test_the_list_handed_in_may_be_changed(self):
        writes = three()
        history = History(File(CELLS), writes)
        writes.append((0, "z"))
        writes[0] = (0, "zzzz")
        self.assertEqual(list(history), three())
        self.assertEqual(history.states(), contents())
        history += (0, "y")
        self.assertEqual(writes, [(0, "zzzz"), *three()[1:], (0, "z")])


class WrongArguments(unittest.TestCase):
    def test_what_is_no_file(self):
        for value in no_files():
            with self.subTest(value=value):
                assert_raises_with(self, InvalidFile, value, History, value)
                assert_raises_with(self, InvalidFile, value, History, value, three())
                assert_raises_with(self, InvalidFile, value, History, writes=[], file=value)

    def test_what_is_no_list(self):
        for value in [*anything(), tuple(three()), dict(three())]:
            if value is not None and not isinstance(value, list):
                with self.subTest(value=value):
                    assert_raises_with(self, InvalidList, value, History, File(CELLS), value)
                    assert_raises_with(self, InvalidList, value, History, writes=value, file=File(CELLS))

    def test_lists_with_what_is_no_write_that_fits(self):
        for value in no_writes():
            for writes in [[value], [(0, "a"), value], [value, (0, "a")], [*three(), value, None, (9, "a")]]:
                with self.subTest(writes=writes):
                    assert_raises_with(self, InvalidWrite, value, History, File(CELLS), writes)
                    assert_raises_with(self, InvalidWrite, value, History, writes=writes, file=File(CELLS))

    def test_the_order_in_which_they_are_looked_at(self):
        for value in no_files():
            for writes in [(), 5, [None], [(9, "a")]]:
                assert_raises_with(self, InvalidFile, value, History, value, writes)
                assert_raises_with(self, InvalidFile, value, History, writes=writes, file=value)
        first, second = (9, "a"), (0, "")
        assert_raises_with(self, InvalidWrite, first, History, File(CELLS), [(0, "a"), first, second])
        assert_raises_with(self, InvalidWrite, second, History, File(CELLS), [second, (0, "a"), first])


class Appended(unittest.TestCase):
    def test_a_write_is_appended_to_the_history_itself(self):
        history = kept = History(File(CELLS))
        for k, write in enumerate(three()):
            history += write
            self.assertIs(history, kept)
            self.assertEqual((list(kept), len(kept), kept[k]), (three()[:k + 1], k + 1, write))
            self.assertEqual(kept.states(), contents()[:k + 2])
        self.assertEqual(history, History(File(CELLS), three()))

    def test_what_is_no_write_that_fits(self):
        history = History(File(CELLS), three())
        for value in [*no_writes(), [], three()]:
            with self.subTest(value=value):
                assert_raises_with(self, InvalidWrite, value, history.__iadd__, value)
                with self.assertRaises(InvalidWrite):
                    history += value
                self.assertEqual(history, History(File(CELLS), three()))

    def test_iterating_while_writes_are_appended(self):
        history = History(File(CELLS), three())
        for begin, text in history:
            history += (begin, text)
        self.assertEqual(list(history), three() * 2)


class Told(unittest.TestCase):
    def test_each_write(self):
        history = History(File(CELLS), three())
        self.assertEqual([history[k] for k in range(3)], three())
        self.assertEqual([write for write in history], three())

    def test_writes_that_are_not_there(self):
        for writes in [[], three()]:
            history = History(File(CELLS), writes)
            for k in [*no_numbers(), -1, -LARGE, len(writes), LARGE]:
                with self.subTest(k=k):
                    assert_raises_with(self, InvalidNumber, k, history.__getitem__, k)

    def test_what_is_told_may_be_changed(self):
        history = History(File(CELLS), three())
        list(history).clear()
        history.states().clear()
        history.moments_of("a00b").append(3)
        self.assertIsNot(history.states(), history.states())
        self.assertIsNot(history.moments_of("a00b"), history.moments_of("a00b"))
        self.assertEqual((list(history), history.states()), (three(), contents()))
        self.assertEqual(history.moments_of("a00b"), [0])

    def test_the_file_stays_as_it_was_at_the_beginning(self):
        history = History(File(CELLS), three())
        history += (0, "zzzz")
        self.assertEqual(history.file, File(CELLS))
        with self.assertRaises(AttributeError):
            history.file = File("zzzz")
        with self.assertRaises(TypeError):
            history[0] = (0, "z")


class Moments(unittest.TestCase):
    def test_the_contents_at_each_moment(self):
        history = History(File(CELLS), three())
        self.assertEqual(history.states(), contents())
        self.assertEqual([history.at(t) for t in range(4)], contents())
        self.assertEqual([history.at(t=t) for t in range(4)], contents())

    def test_contents_cell_by_cell(self):
        chance = random.Random(51)
        for _ in range(200):
            file, writes, moments = some_history(chance)
            history = History(file, writes)
            told = ["".join(cells) for cells in moments]
            self.assertEqual(history.states(), told)
            self.assertEqual([history.at(t) for t in range(len(told))], told)
            for content in told:
                self.assertEqual(history.moments_of(content), [t for t, now in enumerate(told) if now == content])

    def test_what_is_no_moment(self):
        for writes in [[], three()]:
            history = History(File(CELLS), writes)
            for t in [*no_numbers(), -1, -LARGE, len(writes) + 1, LARGE]:
                with self.subTest(t=t):
                    assert_raises_with(self, InvalidNumber, t, history.at, t)
                    assert_raises_with(self, InvalidNumber, t, history.at, t=t)

    def test_moments_at_which_the_file_reads_so(self):
        history = History(File("a.."), [(0, "b"), (0, "b"), (0, "a"), (1, "00"), (2, "c")])
        self.assertEqual(history.moments_of("a00"), [0, 3, 4])
        self.assertEqual(history.moments_of(content="b00"), [1, 2])
        self.assertEqual(history.moments_of("a0c"), [5])
        for content in ["b0c", "000", "zzz"]:
            self.assertEqual(history.moments_of(content), [])

    def test_what_is_no_content_of_the_length_of_the_file(self):
        history = History(File("a..0"), [(1, "b")])
        odd = ["", "a", "a00", "a0000", "a..0", "a.00", "A000", "a 00", "1000", "a00\n", "a00~", "0" * 300]
        for value in [*odd, *no_strings(), ["a", "0", "0", "0"], ("a000",)]:
            with self.subTest(value=value):
                assert_raises_with(self, InvalidContent, value, history.moments_of, value)
                assert_raises_with(self, InvalidContent, value, history.moments_of, content=value)
        assert_raises_with(self, InvalidContent, "0", History(File()).moments_of, "0")


class Parts(unittest.TestCase):
    def check_part(self, history, first, last):
        part = history.part(first, last)
        self.assertIs(type(part), History)
        self.assertEqual(part.file.cells, history.at(first))
        self.assertEqual(list(part), list(history)[first:last])
        self.assertEqual(part.states(), history.states()[first:last + 1])
        self.assertEqual(history.part(last=last, first=first), part)

    def test_all_parts(self):
        chance = random.Random(52)
        for _ in range(30):
            file, writes, moments = some_history(chance)
            history = History(file, writes)
            for first in range(len(moments)):
                for last in range(first, len(moments)):
                    self.check_part(history, first, last)
            self.assertEqual(history, History(file, writes))

    def test_a_part_has_no_holes(self):
        history = History(File(CELLS), three())
        self.assertEqual(history.part(0, 3), History(File("a00b"), three()))
        self.assertNotEqual(history.part(0, 3), history)
        self.assertEqual(history.part(2, 2), History(File("b00c")))

    def test_a_part_is_independent(self):
        history = History(File(CELLS), three())
        part = history.part(0, 3)
        part += (0, "zzzz")
        self.assertEqual(list(history), three())
        history += (0, "y")
        self.assertEqual(list(part), [*three(), (0, "zzzz")])

    def test_what_is_no_moment(self):
        history = History(File(CELLS), three())
        for value in [*no_numbers(), -1, -LARGE, 4, LARGE]:
            with self.subTest(value=value):
                assert_raises_with(self, InvalidNumber, value, history.part, value, 3)
                assert_raises_with(self, InvalidNumber, value, history.part, 0, value)
                assert_raises_with(self, InvalidNumber, value, history.part, 3, value)
                assert_raises_with(self, InvalidNumber, value, history.part, last=3, first=value)
                assert_raises_with(self, InvalidNumber, value, history.part, last=value, first=1)

    def test_a_last_moment_before_the_first(self):
        history = History(File(CELLS), three())
        for first in range(4):
            for last in range(first):
                assert_raises_with(self, InvalidNumber, last, history.part, first, last)

    def test_the_first_moment_is_looked_at_first(self):
        history = History(File(CELLS), three())
        for first in ["x", 4, -1, None]:
            for last in [[1], 5, -2]:
                assert_raises_with(self, InvalidNumber, first, history.part, first, last)
                assert_raises_with(self, InvalidNumber, first, history.part, last=last, first=first)


class Equal(unittest.TestCase):
    def test_histories_are_equal_if_their_files_and_writes_are(self):
        told = [
            (File(CELLS), []), (File("a00b"), []), (File(CELLS), three()), (File("a00b"), three()), (File(), []),
            (File(CELLS), three()[:2]), (File(CELLS), three()[::-1]), (File(CELLS), [(0, "bb")]),
            (File(CELLS), [(0, "b"), (1, "b")]), (File(CELLS), [(0, "a00b")]), (File("...."), [(0, "a00b")]),
        ]
        for at, (file, writes) in enumerate(told):
            for other, (second, others) in enumerate(told):
                self.assertIs(History(file, writes) == History(second, others), at == other)
                self.assertIs(History(file, writes) != History(second, others), at != other)

    def test_it_does_not_count_how_a_history_was_made(self):
        history = History(File(CELLS))
        for write in three():
            self.assertNotEqual(history, History(File(CELLS), three()))
            history += write
        self.assertEqual(history, History(File(CELLS), three()))

    def test_a_history_is_not_equal_to_any_other_object(self):
        class Sly:
            def __eq__(self, other):
                return True
        history = History(File(CELLS), three())
        for other in [*anything(), three(), tuple(three()), (File(CELLS), three()), Sly()]:
            with self.subTest(other=other):
                self.assertIs(history == other, False)
                self.assertIs(history != other, True)


class Copied(unittest.TestCase):
    def test_a_copy_is_equal(self):
        for history in [History(File()), History(File(CELLS)), History(File(CELLS), three())]:
            copy = history.copy()
            self.assertIs(type(copy), History)
            self.assertIsNot(copy, history)
            self.assertEqual(copy, history)
            self.assertEqual(copy.states(), history.states())

    def test_a_copy_is_independent(self):
        history = History(File(CELLS), three())
        copy, second = history.copy(), history.copy()
        copy += (0, "zzzz")
        self.assertEqual((list(history), list(second)), (three(), three()))
        history += (1, "y")
        self.assertEqual((list(copy), list(second)), ([*three(), (0, "zzzz")], three()))
        self.assertEqual((copy.at(4), history.at(4)), ("zzzz", "bydc"))

"""[60], [61] and [62]: copies."""

import math
import random
import unittest

from keptholes.copies import copy_at, copy_count, copy_moments, copy_number, late_block, sizes_for
from keptholes.errors import InvalidContent, InvalidHistory, InvalidNumber
from keptholes.files import File
from keptholes.histories import History
from tests.values import (
    LARGE, all_copies, assert_raises_with, content_read, lists_of_moments, no_histories, no_numbers, no_strings,
    reading_order, rows_of, some_history,
)

BOTH = [False, True]
NO_SIZES = [0, -1, -LARGE]
NO_CONTENTS = ["", "aaa", "aaaaa", "a.aa", "aaa.", "aaaA", "aa a", "1aaa", "aaa\n", "a" * 300]


def example():
    return History(File("aaaa"), [(0, "b"), (3, "c"), (1, "dd")])


def fixed():
    """Histories that are odd in some way."""
    return [
        History(File()), History(File(".")), History(File("a.0b")), History(File("a"), [(0, "b"), (0, "a")]), example(),
        History(File("...."), [(0, "0000")] * 3), History(File("....."), [(4, "a"), (3, "b"), (2, "c"), (1, "d")]),
        History(File("....."), [(0, "a"), (1, "b"), (2, "c"), (3, "d")]), History(File("ab"), [(0, "ba"), (0, "ab")]),
    ]


def some():
    """Small histories of all kinds."""
    chance = random.Random(60)
    return [*fixed(), *[some_history(chance, 6, 4) for _ in range(80)]]


def each():
    """All these histories with all sizes that make a difference, and one more, in both directions."""
    for history in some():
        for size in range(1, len(history.file) + 3):
            for down in BOTH:
                yield history, size, down


def earliest_of(history, size, down):
    """For each content that copies have the earliest moments, in the order of reading, by going through all."""
    found = {}
    for content, moments in all_copies(history.states(), size, down, 0, len(history)):
        found[content] = [min(pair) for pair in zip(found.get(content, moments), moments)]
    return found


def late_of(history, size, down, content):
    """What [61] says of late_block where no copy has the content, by going through all lists of moments."""
    order = reading_order(len(history.file), size, down)
    moment = 0
    for count, (block, _, _) in enumerate(order, start=1):
        ends = [
            moments[-1] for moments in lists_of_moments(count, 0, len(history))
            if all(history.at(t)[b:e] == content[b:e] for t, (_, b, e) in zip(moments, order))
        ]
        if not ends:
            return block, moment
        moment = min(ends)
    raise AssertionError("some copy has it")


def no_copies(history, found):
    """Some contents that no copy has."""
    length = len(history.file)
    near = [content[:k] + sign + content[k + 1:] for content in found for k in range(length) for sign in "0az"]
    told = {*near, *rows_of(min(length, 4), "0ab")}
    return sorted(content for content in told if content not in found and len(content) == length)


class Copies(unittest.TestCase):
    def test_the_contents_that_there_are(self):
        for history, size, down in each():
            told = sorted(earliest_of(history, size, down))
            count = copy_count(history, size, down=down)
            self.assertIs(type(count), int)
            self.assertEqual(count, len(told))
            self.assertEqual([copy_at(history, size, k, down=down) for k in range(count)], told)
            self.assertEqual([copy_number(history, size, content, down=down) for content in told], list(range(count)))

    def test_the_earliest_moments(self):
        for history, size, down in each():
            for content, moments in earliest_of(history, size, down).items():
                told = copy_moments(history, size, content, down=down)
                self.assertEqual(told, moments[::-1] if down else moments)
                self.assertEqual(content_read(history.states(), size, down, moments), content)
                self.assertIsNone(late_block(history, size, content, down=down))

    def test_contents_that_no_copy_has(self):
        for history, size, down in each():
            for content in no_copies(history, earliest_of(history, size, down))[::3]:
                self.assertIsNone(copy_moments(history, size, content, down=down))
                self.assertIsNone(copy_number(history, size, content, down=down))
                late = late_block(history, size, content, down=down)
                self.assertIs(type(late), tuple)
                self.assertEqual(late, late_of(history, size, down, content))

    def test_a_copy_has_each_content_of_the_history(self):
        for history, size, down in each():
            for content in history.states():
                self.assertIsNotNone(copy_moments(history, size, content, down=down))
                self.assertIsNone(late_block(history, size, content, down=down))

    def test_directions(self):
        history = History(File("aaa"), [(0, "b"), (2, "c")])
        self.assertEqual([copy_at(history, 1, k) for k in range(4)], ["aaa", "aac", "baa", "bac"])
        self.assertEqual([copy_at(history, 1, k, down=True) for k in range(3)], ["aaa", "baa", "bac"])
        self.assertEqual((copy_count(history, 1, down=False), copy_count(history, 1, down=True)), (4, 3))
        self.assertEqual(copy_moments(history, 1, "baa"), [1, 1, 1])
        self.assertEqual(copy_moments(history, 1, "baa", down=True), [1, 0, 0])
        self.assertEqual(copy_moments(history, 1, "bac", down=True), [2, 2, 2])
        self.assertEqual(late_block(history, 1, "aac", down=True), (0, 2))
        self.assertEqual(late_block(history, 1, "cab", down=True), (2, 0))

    def test_several_blocks_may_be_read_at_one_moment(self):
        history = History(File("abcd"))
        self.assertEqual((copy_count(history, 1), copy_at(history, 1, 0)), (1, "abcd"))
        self.assertEqual(copy_moments(history, 1, "abcd"), [0, 0, 0, 0])

    def test_the_last_block_may_be_cut_off(self):
        history = History(File("aaaaa"), [(4, "b"), (3, "c")])
        for down in BOTH:
            self.assertEqual(copy_moments(history, 3, "aaaaa", down=down), [0, 0])
        self.assertEqual(copy_moments(history, 3, "aaacb", down=True), [2, 2])
        self.assertEqual(copy_moments(history, 3, "aaacb"), [0, 2])
        self.assertEqual(copy_moments(history, 4, "aaacb"), [2, 2])
        self.assertEqual(late_block(history, 4, "aaaca"), (1, 2))

    def test_one_block(self):
        history = example()
        for size in [4, 5, 300, LARGE]:
            for down in BOTH:
                self.assertEqual(copy_count(history, size, down=down), 4)
                told = [copy_at(history, size, k, down=down) for k in range(4)]
                self.assertEqual(told, sorted(history.states()))
                self.assertEqual(copy_moments(history, size, "baac", down=down), [2])
                self.assertEqual(late_block(history, size, "aaac", down=down), (0, 0))

    def test_a_file_without_cells_has_one_copy(self):
        for size in [1, 2, LARGE]:
            for down in BOTH:
                history = History(File())
                self.assertEqual(copy_moments(history, size, "", down=down), [])
                self.assertIsNone(late_block(history, size, "", down=down))
                self.assertEqual(copy_count(history, size, down=down), 1)
                self.assertEqual(copy_at(history, size, 0, down=down), "")
                self.assertEqual(copy_number(history, size, "", down=down), 0)
                self.assertEqual(sizes_for(history, "", 3, down=down), [1, 2, 3])

    def test_holes_read_as_noughts(self):
        history = History(File(".a0."), [(1, "0"), (3, "b")])
        self.assertEqual([copy_at(history, 2, k) for k in range(4)], ["0000", "000b", "0a00", "0a0b"])

    def test_the_example_of_the_document(self):
        history = example()
        told = [
            history.states(), copy_count(history, 2), copy_at(history, 2, 1), copy_at(history, 2, 5),
            copy_moments(history, 2, "aaac"), late_block(history, 2, "bdaa"),
        ]
        self.assertEqual(told, [["aaaa", "baaa", "baac", "bddc"], 7, "aaac", "badc", [0, 2], (1, 3)])


class Sizes(unittest.TestCase):
    def test_against_asking_size_by_size(self):
        chance = random.Random(62)
        for history in some():
            contents = {copy_at(history, size, 0) for size in range(1, 7)} | set(history.states())
            contents |= {copy_at(history, 1, copy_count(history, 1) // 2)}
            contents |= {"".join(chance.choices("0ab", k=len(history.file)))}
            for content in sorted(contents):
                for down in BOTH:
                    for most in [1, 2, len(history.file) + 2]:
                        told = {k: copy_moments(history, k, content, down=down) for k in range(1, most + 1)}
                        sizes = [k for k in told if told[k] is not None]
                        self.assertEqual(sizes_for(history, content, most, down=down), sizes)

    def test_against_all_lists_of_moments(self):
        for history in some()[:30]:
            for down in BOTH:
                found = {size: earliest_of(history, size, down) for size in range(1, 6)}
                for content in sorted(found[1]):
                    told = [size for size in range(1, 6) if content in found[size]]
                    self.assertEqual(sizes_for(history, content, 5, down=down), told)

    def test_sizes_that_are_not_all_up_to_one(self):
        history = History(File("aaaaaa"), [(1, "b"), (4, "c")])
        self.assertEqual(sizes_for(history, "aaaaca", 6), [1, 2, 3, 4])
        self.assertEqual(sizes_for(history, "aaaaca", 6, down=True), [])
        self.assertEqual(sizes_for(history, "abaaaa", 6, down=True), [1, 2, 3, 4, 5, 6])
        other = History(File("aaaa"), [(2, "b"), (0, "c"), (2, "a"), (3, "d")])
        self.assertEqual(sizes_for(other, "caba", 300), list(range(1, 301)))
        self.assertEqual(sizes_for(other, "aaad", 300), [1, 2, 3])

    def test_bounds(self):
        history = example()
        self.assertEqual(sizes_for(history, "aaaa", 300), list(range(1, 301)))
        self.assertEqual(sizes_for(history, "aaaa", 1), [1])
        self.assertEqual(sizes_for(history, "zzzz", 300), [])
        for most in [0, -1, -LARGE, 301, 302, LARGE, *no_numbers()]:
            with self.subTest(most=most):
                assert_raises_with(self, InvalidNumber, most, sizes_for, history, "aaaa", most)
                assert_raises_with(self, InvalidNumber, most, sizes_for, history, "aaaa", most=most, down=True)


def rising():
    """Forty writes over 120 cells, so that what each of sixty blocks reads as rises from moment to moment."""
    texts = ["".join((first, second) * 60) for first in "ab" for second in "0abcdefghijklmnopqrstuvwxyz"][:41]
    return History(File(texts[0]), [(0, text) for text in texts[1:]])


class Many(unittest.TestCase):
    """More copies than can be gone through."""

    COUNT = math.comb(100, 40)

    def test_how_many(self):
        for down in BOTH:
            self.assertEqual(copy_count(rising(), 2, down=down), self.COUNT)
        for size in [3, 7, 60, 119]:
            blocks = -(-120 // size)
            many = copy_count(History(File("0" * 120), [(0, sign * 120) for sign in "abcde"]), size)
            self.assertEqual(many, math.comb(blocks + 5, 5))

    def test_the_first_and_the_last(self):
        history = rising()
        states = history.states()
        self.assertEqual(copy_at(history, 2, 0), states[0])
        self.assertEqual(copy_at(history, 2, 1), states[0][:118] + states[1][118:])
        self.assertEqual(copy_at(history, 2, 40), states[0][:118] + states[40][118:])
        self.assertEqual(copy_at(history, 2, 41), states[0][:116] + states[1][116:])
        self.assertEqual(copy_at(history, 2, self.COUNT - 1), states[40])
        self.assertEqual(copy_at(history, 2, self.COUNT - 2), states[39][:2] + states[40][2:])
        self.assertEqual(copy_at(history, 2, 0, down=True), states[0])
        self.assertEqual(copy_at(history, 2, 1, down=True), states[1][:2] + states[0][2:])
        self.assertEqual(copy_at(history, 2, self.COUNT - 1, down=True), states[40])
        self.assertEqual(copy_at(history, 2, self.COUNT - 2, down=True), states[40][:118] + states[39][118:])

    def test_numbers_that_rise_with_the_contents(self):
        chance = random.Random(63)
        histories = [rising(), History(File("." * 60), [(chance.randrange(30), "ab0" * 10) for _ in range(40)])]
        for history in histories:
            for size in [1, 2]:
                for down in BOTH:
                    self.check_numbers(chance, history, size, down)

    def check_numbers(self, chance, history, size, down):
        count = copy_count(history, size, down=down)
        self.assertGreater(count, 10 ** 9)
        numbers = sorted({0, 1, 2, count - 2, count - 1, *[chance.randrange(count) for _ in range(30)]})
        contents = [copy_at(history, size, number, down=down) for number in numbers]
        self.assertEqual(contents, sorted(set(contents)))
        for number, content in zip(numbers, contents):
            self.assertEqual(copy_number(history, size, content, down=down), number)
            self.assertIsNotNone(copy_moments(history, size, content, down=down))
            if number + 1 < count:
                self.assertLess(content, copy_at(history, size, number + 1, down=down))
        for number in [-1, count, count + 1, -count]:
            assert_raises_with(self, InvalidNumber, number, copy_at, history, size, number, down=down)


class WrongArguments(unittest.TestCase):
    def test_what_is_no_history(self):
        for value in no_histories():
            with self.subTest(value=value):
                for size, more in [(2, "aaaa"), (0, "aaaa"), (None, 5)]:
                    for call in [copy_moments, late_block, copy_number]:
                        assert_raises_with(self, InvalidHistory, value, call, value, size, more)
                        assert_raises_with(self, InvalidHistory, value, call, content=more, size=size, history=value)
                    assert_raises_with(self, InvalidHistory, value, copy_count, value, size)
                    assert_raises_with(self, InvalidHistory, value, copy_count, size=size, history=value)
                    assert_raises_with(self, InvalidHistory, value, copy_at, value, size, 0)
                    assert_raises_with(self, InvalidHistory, value, copy_at, number=[], size=size, history=value)
                    assert_raises_with(self, InvalidHistory, value, sizes_for, value, more, size)
                    assert_raises_with(self, InvalidHistory, value, sizes_for, most=0, content=[], history=value)

    def test_what_is_no_size(self):
        history = example()
        for value in [*no_numbers(), *NO_SIZES]:
            with self.subTest(value=value):
                for content in ["aaaa", "aaa", None]:
                    for call in [copy_moments, late_block, copy_number]:
                        assert_raises_with(self, InvalidNumber, value, call, history, value, content)
                        assert_raises_with(self, InvalidNumber, value, call, history, content=content, size=value)
                assert_raises_with(self, InvalidNumber, value, copy_count, history, value)
                assert_raises_with(self, InvalidNumber, value, copy_count, size=value, history=history, down=True)
                for number in [0, -1, [7], 10 ** 9]:
                    assert_raises_with(self, InvalidNumber, value, copy_at, history, value, number)
                    assert_raises_with(self, InvalidNumber, value, copy_at, number=number, size=value, history=history)

    def test_what_is_no_content(self):
        history = example()
        for value in [*no_strings(), *NO_CONTENTS, ["a"] * 4]:
            with self.subTest(value=value):
                for down in BOTH:
                    for call in [copy_moments, late_block, copy_number]:
                        assert_raises_with(self, InvalidContent, value, call, history, 2, value, down=down)
                        assert_raises_with(self, InvalidContent, value, call, content=value, size=2, history=history)
                for most in [2, 0, None, 301]:
                    assert_raises_with(self, InvalidContent, value, sizes_for, history, value, most)
                    assert_raises_with(self, InvalidContent, value, sizes_for, history, most=most, content=value)
        for call in [copy_moments, late_block, copy_number]:
            assert_raises_with(self, InvalidContent, "0", call, History(File()), 1, "0")

    def test_what_is_no_number_of_a_copy(self):
        for history, count in [(example(), 7), (History(File()), 1), (History(File("a")), 1)]:
            for value in [*no_numbers(), -1, -LARGE, count, count + 1, LARGE]:
                with self.subTest(value=value):
                    assert_raises_with(self, InvalidNumber, value, copy_at, history, 2, value)
                    assert_raises_with(self, InvalidNumber, value, copy_at, number=value, size=2, history=history)
        assert_raises_with(self, InvalidNumber, 6, copy_at, example(), 2, 6, down=True)
        self.assertEqual(copy_at(example(), 2, 5, down=True), "bddc")

    def test_an_error_changes_nothing(self):
        history = example()
        for call, *args in [(copy_moments, 0, ""), (copy_at, 2, 7), (copy_number, 2, "a"), (sizes_for, "aaaa", 301)]:
            with self.assertRaises((InvalidNumber, InvalidContent)):
                call(history, *args)
        self.assertEqual(history, example())


class Arguments(unittest.TestCase):
    def test_by_name_in_another_order(self):
        history = example()
        for down in BOTH:
            for content in ["aaac", "badc", "baaa", "zzzz"]:
                for call in [copy_moments, late_block, copy_number]:
                    told = call(history, 2, content, down=down)
                    self.assertEqual(call(down=down, content=content, size=2, history=history), told)
                    if not down:
                        self.assertEqual(call(history, size=2, content=content), told)
                told = sizes_for(history, content, 9, down=down)
                self.assertEqual(sizes_for(down=down, most=9, content=content, history=history), told)
            self.assertEqual(copy_count(down=down, size=2, history=history), copy_count(history, 2, down=down))
            self.assertEqual(copy_at(number=3, down=down, size=2, history=history), copy_at(history, 2, 3, down=down))

    def test_without_a_direction_the_first_block_is_read_first(self):
        for history in some():
            content = copy_at(history, 1, copy_count(history, 1) - 1)
            self.assertEqual(copy_count(history, 1), copy_count(history, 1, down=False))
            self.assertEqual(copy_at(history, 1, 0), copy_at(history, 1, 0, down=False))
            self.assertEqual(copy_number(history, 1, content), copy_number(history, 1, content, down=False))
            self.assertEqual(copy_moments(history, 1, content), copy_moments(history, 1, content, down=False))
            self.assertEqual(late_block(history, 1, content), late_block(history, 1, content, down=False))
            self.assertEqual(sizes_for(history, content, 9), sizes_for(history, content, 9, down=False))

    def test_the_direction_is_told_by_name(self):
        history = example()
        for call in [
            lambda: copy_moments(history, 2, "aaaa", True), lambda: late_block(history, 2, "aaaa", True),
            lambda: copy_count(history, 2, True), lambda: copy_at(history, 2, 0, True),
            lambda: copy_number(history, 2, "aaaa", True), lambda: sizes_for(history, "aaaa", 3, True),
        ]:
            with self.assertRaises(TypeError):
                call()

    def test_what_is_told_may_be_changed(self):
        history = example()
        for call, *args in [(copy_moments, 2, "aaac"), (sizes_for, "aaac", 9)]:
            told = call(history, *args)
            kept = list(told)
            self.assertIsNot(call(history, *args), told)
            told.clear()
            self.assertEqual(call(history, *args), kept)
        self.assertEqual(history, example())

    def test_a_history_that_is_lengthened(self):
        chance = random.Random(64)
        for _ in range(20):
            history = some_history(chance, 6, 2)
            for _ in range(4 if len(history.file) else 1):
                copy = history.copy()
                for one in [history, copy]:
                    self.check_as_new(one)
                if len(history.file):
                    history += (chance.randrange(len(history.file)), chance.choice("0abc"))
                    self.check_as_new(copy)

    def check_as_new(self, history):
        new = History(File(history.file.cells), list(history))
        for down in BOTH:
            count = copy_count(history, 2, down=down)
            self.assertEqual(count, copy_count(new, 2, down=down))
            contents = [copy_at(history, 2, k, down=down) for k in range(count)]
            self.assertEqual(contents, [copy_at(new, 2, k, down=down) for k in range(count)])
            for content in [*contents, "z" * len(history.file)]:
                for call in [copy_moments, late_block, copy_number]:
                    self.assertEqual(call(history, 2, content, down=down), call(new, 2, content, down=down))
                self.assertEqual(sizes_for(history, content, 7, down=down), sizes_for(new, content, 7, down=down))

"""[70] and [71]: torn copies, and the holds against them."""

import itertools
import random
import unittest

from keptholes.copies import copy_at, copy_moments
from keptholes.errors import InvalidHistory, InvalidNumber
from keptholes.files import File
from keptholes.histories import History
from keptholes.torn import holds, torn_copy, windows
from tests.values import (
    LARGE, all_copies, assert_raises_with, no_histories, no_numbers, some_history, some_write,
)

BOTH = [False, True]


def example():
    return History(File("aaa"), [(0, "b"), (1, "c"), (2, "d")])


def fixed():
    """Histories that are odd in some way."""
    return [
        History(File()), History(File(".")), History(File("a.0b")), History(File("a"), [(0, "b"), (0, "a")]), example(),
        History(File("aaaa"), [(1, "bb")]), History(File("...."), [(0, "0000")] * 3),
        History(File("....."), [(4, "a"), (3, "b"), (2, "c"), (1, "d")]),
        History(File("....."), [(0, "a"), (1, "b"), (2, "c"), (3, "d"), (4, "e")]),
        History(File("ab"), [(0, "ba"), (0, "ab"), (0, "aa"), (0, "bb")]),
        History(File("aa"), [(0, "b"), (1, "b"), (0, "a")]),
        History(File("aa"), [(0, "b"), (0, "a"), (1, "b"), (1, "a"), (0, "b")]),
    ]


def some():
    """Small histories of all kinds."""
    chance = random.Random(70)
    return [*fixed(), *[some_history(chance, 5, 5) for _ in range(90)]]


def each():
    """All these histories with all sizes that make a difference, in both directions."""
    for history in some():
        for size in range(1, len(history.file) + 2):
            for down in BOTH:
                yield history, size, down


def torn_of(history, size, down, first, last):
    """The contents of all torn copies from one moment to another, by going through all lists of moments."""
    states = history.states()
    return {content for content, _ in all_copies(states, size, down, first, last)} - set(states)


def torn_lists(history, size, down):
    """All lists of moments, in the order of reading, of torn copies."""
    states = history.states()
    found = all_copies(states, size, down, 0, len(history))
    return [moments for content, moments in found if content not in states]


def are_enough(told, torn):
    """Whether each torn copy goes across one of these holds."""
    return all(any(min(moments) < hold < max(moments) for hold in told) for moments in torn)


def fewest(history, torn):
    """How few holds are enough, None if all moments are not, by going through all sets of holds."""
    moments = range(len(history) + 1)
    for count in range(len(moments) + 1):
        if any(are_enough(told, torn) for told in itertools.combinations(moments, count)):
            return count
    return None


class Torn(unittest.TestCase):
    def test_all_pairs_of_moments(self):
        for history, size, down in each():
            for first in range(len(history) + 1):
                for last in range(first, len(history) + 1):
                    told = torn_copy(history, size, first, last, down=down)
                    torn = torn_of(history, size, down, first, last)
                    if torn:
                        self.assertIn(told, torn)
                    else:
                        self.assertIsNone(told)

    def test_without_moments_it_is_all_of_them(self):
        for history, size, down in each():
            last = len(history)
            told = torn_copy(history, size, down=down)
            self.assertEqual(told, torn_copy(history, size, 0, last, down=down))
            self.assertEqual(told, torn_copy(history, size, 0, None, down=down))
            self.assertEqual(told, torn_copy(history, size, last=last, down=down))
            for first in range(last + 1):
                told = torn_copy(history, size, first, last, down=down)
                self.assertEqual(torn_copy(history, size, first, down=down), told)
                self.assertEqual(torn_copy(history, size, first, last=None, down=down), told)
                self.assertEqual(torn_copy(down=down, last=last, first=first, size=size, history=history), told)

    def test_a_content_of_a_moment_that_is_not_between_counts_too(self):
        history = History(File("aa"), [(0, "b"), (1, "b"), (0, "a")])
        self.assertIsNone(torn_copy(history, 1, 0, 2, down=True))
        self.assertIsNone(torn_copy(history, 1, 2, 3))
        self.assertEqual(history.states(), ["aa", "ba", "bb", "ab"])
        self.assertIsNone(torn_copy(history, 1, 0, 2))

    def test_one_moment_and_one_block(self):
        for history in some():
            for down in BOTH:
                for t in range(len(history) + 1):
                    self.assertIsNone(torn_copy(history, 1, t, t, down=down))
                for size in [max(1, len(history.file)), 300, LARGE]:
                    self.assertIsNone(torn_copy(history, size, down=down))

    def test_torn_copies_that_come_behind_all_others(self):
        for most in [2, 9, 40]:
            history = History(File("z" + "0" * (most - 1)), [(0, "0"), *[(k, "a") for k in range(most - 1, 0, -1)]])
            states = history.states()
            self.assertEqual([copy_at(history, 1, k) for k in range(most + 1)], sorted(states))
            told = torn_copy(history, 1)
            self.assertNotIn(told, states)
            self.assertIsNotNone(copy_moments(history, 1, told))
            self.assertIsNone(torn_copy(history, 1, 1))
            self.assertEqual((holds(history, 1), windows(history, 1)), ([1], [(0, 2)]))


class Holds(unittest.TestCase):
    def test_against_all_sets_of_holds(self):
        told_none = 0
        for history, size, down in each():
            torn = torn_lists(history, size, down)
            told = holds(history, size, down=down)
            count = fewest(history, torn)
            if count is None:
                told_none += 1
                self.assertIsNone(told)
            else:
                self.assertEqual(len(told), count)
                self.assertEqual(told, sorted(set(told)))
                self.assertTrue(all(type(hold) is int and 0 <= hold <= len(history) for hold in told))
                self.assertTrue(are_enough(told, torn))
        self.assertGreater(told_none, 20)

    def test_windows(self):
        for history, size, down in each():
            told = windows(history, size, down=down)
            found = holds(history, size, down=down)
            for first, last in told:
                self.assertTrue(0 <= first < last <= len(history))
                self.assertTrue(torn_of(history, size, down, first, last))
            self.assertEqual(told, sorted(told))
            if found is None:
                self.assertEqual([last - first for first, last in told], [1])
            else:
                self.assertEqual(len(told), len(found))
            for m in range(len(history) + 1):
                self.assertLessEqual(len([1 for first, last in told if first < m < last]), 1)

    def test_what_is_told_is_a_list(self):
        for history, size, down in each():
            told = windows(history, size, down=down)
            self.assertIs(type(told), list)
            self.assertTrue(all(type(window) is tuple and len(window) == 2 for window in told))
            self.assertTrue(all(type(t) is int for window in told for t in window))
            self.assertIn(type(holds(history, size, down=down)), [list, type(None)])

    def test_larger_histories_with_holds(self):
        chance = random.Random(71)
        for down in BOTH:
            for _ in range(20):
                writes = [(chance.randrange(40), chance.choice("ab0")) for _ in range(chance.randint(20, 40))]
                history = History(File("." * 40), writes)
                found = holds(history, 2, down=down)
                self.check_bounds(history, found, down)
                self.check_windows(history, windows(history, 2, down=down), found, down)

    def check_bounds(self, history, found, down):
        bounds = [0, *found, len(history)]
        self.assertGreater(len(bounds), 3)
        for first, last in zip(bounds, bounds[1:]):
            self.assertIsNone(torn_copy(history, 2, first, last, down=down))

    def check_windows(self, history, told, found, down):
        self.assertEqual(len(told), len(found))
        for first, last in told:
            self.assertIsNotNone(torn_copy(history, 2, first, last, down=down))
        for (_, end), (begin, _) in zip(told, told[1:]):
            self.assertLess(end - 1, begin + 1)

    def test_holds_at_all_moments_are_not_enough(self):
        histories = [
            History(File("aaaa"), [(1, "bb")]), History(File("aaaa"), [(0, "b"), (1, "b"), (2, "b"), (0, "cdef")]),
            History(File("aaaa"), [(0, "b"), (3, "b"), (0, "b"), (3, "c"), (1, "dd"), (0, "bcdf")]),
        ]
        for history in histories:
            for down in BOTH:
                self.assertIsNone(holds(history, 2, down=down))
                ((first, last),) = windows(history, 2, down=down)
                self.assertEqual(last, first + 1)
                self.assertIsNotNone(torn_copy(history, 2, first, last, down=down))
        self.assertEqual(windows(histories[1], 2), [(3, 4)])

    def test_no_holds_are_needed(self):
        for history in [History(File()), History(File("a.0")), History(File("ab"), [(0, "ab")] * 3)]:
            for size in [1, 2, LARGE]:
                for down in BOTH:
                    self.assertEqual((holds(history, size, down=down), windows(history, size, down=down)), ([], []))

    def test_the_example_of_the_document(self):
        history = example()
        other = History(File("aaaa"), [(1, "bb")])
        told = [
            holds(history, 1), windows(history, 1), holds(history, 1, down=True), torn_copy(history, 1, 0, 1),
            holds(history, 3), holds(other, 2), windows(other, 2),
        ]
        self.assertEqual(told[0], [1, 2])
        self.assertEqual(told[1], [(0, 2), (1, 3)])
        self.assertEqual(told[2:], [[], None, [], None, [(0, 1)]])


class WrongArguments(unittest.TestCase):
    def test_what_is_no_history(self):
        for value in no_histories():
            with self.subTest(value=value):
                for size in [1, 0, None]:
                    for call in [torn_copy, holds, windows]:
                        assert_raises_with(self, InvalidHistory, value, call, value, size)
                        assert_raises_with(self, InvalidHistory, value, call, down=True, size=size, history=value)
                    assert_raises_with(self, InvalidHistory, value, torn_copy, value, size, -1, "x")
                    assert_raises_with(self, InvalidHistory, value, torn_copy, value, size, last=[], first=[])

    def test_what_is_no_size(self):
        history = example()
        for value in [*no_numbers(), 0, -1, -LARGE]:
            with self.subTest(value=value):
                for call in [torn_copy, holds, windows]:
                    assert_raises_with(self, InvalidNumber, value, call, history, value)
                    assert_raises_with(self, InvalidNumber, value, call, down=True, size=value, history=history)
                for first, last in [(-1, 0), (0, 4), (4, None), ([], [])]:
                    assert_raises_with(self, InvalidNumber, value, torn_copy, history, value, first, last)
                    assert_raises_with(
                        self, InvalidNumber, value, torn_copy, last=last, first=first, size=value, history=history,
                    )

    def test_what_is_no_moment(self):
        for history in [example(), History(File())]:
            for value in [*no_numbers(), -1, -LARGE, len(history) + 1, LARGE]:
                with self.subTest(value=value):
                    for last in [len(history), 0, None, -1, 9, "x"]:
                        assert_raises_with(self, InvalidNumber, value, torn_copy, history, 1, value, last)
                        assert_raises_with(self, InvalidNumber, value, torn_copy, history, 1, last=last, first=value)
                    if value is not None:
                        assert_raises_with(self, InvalidNumber, value, torn_copy, history, 1, 0, value)
                        assert_raises_with(self, InvalidNumber, value, torn_copy, history, 1, last=value, down=True)

    def test_a_last_moment_before_the_first(self):
        history = example()
        for first in range(4):
            for last in range(first):
                assert_raises_with(self, InvalidNumber, last, torn_copy, history, 1, first, last)
                assert_raises_with(self, InvalidNumber, last, torn_copy, history, 1, last=last, first=first)

    def test_an_error_changes_nothing(self):
        history = example()
        with self.assertRaises(InvalidNumber):
            torn_copy(history, 1, 2, 1)
        with self.assertRaises(InvalidNumber):
            holds(history, 0)
        self.assertEqual(history, example())


class Arguments(unittest.TestCase):
    def test_by_name_in_another_order(self):
        for history in some()[:30]:
            for down in BOTH:
                for call in [holds, windows]:
                    self.assertEqual(call(down=down, size=1, history=history), call(history, 1, down=down))
            for call in [torn_copy, holds, windows]:
                self.assertEqual(call(history, 1), call(history, 1, down=False))

    def test_the_direction_is_told_by_name(self):
        history = example()
        for call in [
            lambda: torn_copy(history, 1, 0, 1, True), lambda: holds(history, 1, True),
            lambda: windows(history, 1, True),
        ]:
            with self.assertRaises(TypeError):
                call()

    def test_what_is_told_may_be_changed(self):
        history = example()
        for call, kept in [(holds, [1, 2]), (windows, [(0, 2), (1, 3)])]:
            told = call(history, 1)
            self.assertIsNot(call(history, 1), told)
            told.clear()
            self.assertEqual(call(history, 1), kept)
        self.assertEqual(history, example())

    def test_a_history_that_is_lengthened(self):
        chance = random.Random(72)
        for _ in range(20):
            history = History(File("." * 5), [(2, "a")])
            for _ in range(5):
                copy = history.copy()
                self.check_as_new(history)
                history += some_write(chance, 5)
                for one in [history, copy]:
                    self.check_as_new(one)

    def check_as_new(self, history):
        new = History(File(history.file.cells), list(history))
        for size in [1, 2]:
            for down in BOTH:
                for call in [torn_copy, holds, windows]:
                    self.assertEqual(call(history, size, down=down), call(new, size, down=down))

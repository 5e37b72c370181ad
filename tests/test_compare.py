"""[35] and [36]: comparisons."""

import math
import random
import unittest

from keptholes.compare import (
    alike, exchangeable, keeps_holes, keeps_written, more_file, needless, never_more, parting,
)
from keptholes.errors import InvalidScript
from keptholes.files import File
from keptholes.reasons import reasons
from keptholes.steps import Dig, Full, Keep, Lean, Script
from tests.values import assert_raises_with, divisors, no_scripts, rows, rows_of, some_row, some_script

OF_TWO = [alike, parting, never_more, more_file, exchangeable]
OF_ONE = [needless, keeps_holes, keeps_written]


def fixed():
    """Pairs of scripts, some of which are alike."""
    told = [
        ([], []), ([], [Full()]), ([], [Keep(1)]), ([], [Dig(1)]), ([], [Lean(1)]), ([Lean(1)], [Dig(1)]),
        ([Keep(2)], [Keep(2), Keep(2)]), ([Keep(2)], [Keep(2), Keep(1)]), ([Lean(2)], [Keep(2)]),
        ([Lean(2)], [Full(), Dig(2)]), ([Lean(2)], [Dig(2), Keep(2)]), ([Lean(2)], [Dig(2)]),
        ([Keep(2), Keep(4)], [Keep(4)]), ([Keep(2), Keep(3)], [Keep(3), Keep(2)]), ([Keep(2), Keep(3)], [Keep(6)]),
        ([Keep(2), Keep(3), Keep(2)], [Keep(6)]), ([Dig(2), Dig(3)], [Dig(3), Dig(2)]), ([Dig(2), Dig(4)], [Dig(2)]),
        ([Full()], [Keep(6)]), ([Full(), Dig(6)], [Lean(6)]), ([Lean(2), Keep(6)], [Lean(6)]),
        ([Keep(2), Dig(3), Keep(2)], [Keep(2), Dig(6), Keep(2)]),
    ]
    return [(Script(one), Script(other)) for one, other in told]


def some_pair(chance, period, longest):
    """Two scripts, often with the same steps in large part, so that some pairs are alike."""
    one = some_script(chance, divisors(period), longest)
    if len(one) == 0 or chance.random() < 0.3:
        return one, some_script(chance, divisors(period), longest)
    other = one.without(chance.randrange(len(one)))
    if chance.random() < 0.3:
        return one, Script([*other, Keep(chance.choice(divisors(period)))])
    return (one, other) if chance.random() < 0.5 else (other, one)


def pairs():
    chance = random.Random(35)
    return [
        *fixed(), *[(other, one) for one, other in fixed()],
        *[some_pair(chance, period, 6) for period, times in [(2, 10), (3, 10), (4, 40), (6, 60)] for _ in range(times)],
    ]


def holes_of(file):
    return [k for k, cell in enumerate(file) if cell == "."]


def makes_more(one, other, file):
    """Whether some cell is written after one script and not after the other."""
    return not set(holes_of(other.play(file))) <= set(holes_of(one.play(file)))


def length_of(one, other):
    return math.lcm(one.period, other.period)


def all_files(length):
    return [File(row) for row in rows_of(length)]


def do_the_same(one, other):
    return all(one.play(file) == other.play(file) for file in all_files(length_of(one, other)))


class Files(unittest.TestCase):
    """That a file is of the form that it must have."""

    def check_form(self, file, one, other):
        self.assertIs(type(file), File)
        self.assertLessEqual(len(file), length_of(one, other))
        self.assertLessEqual(file.room, 3)

    def check_parts(self, one, other):
        file = parting(one, other)
        if file is not None:
            self.check_form(file, one, other)
            self.assertNotEqual(one.play(file), other.play(file))
        return file

    def check_more(self, one, other):
        file = more_file(one, other)
        if file is not None:
            self.check_form(file, one, other)
            self.assertTrue(makes_more(one, other, file))
        return file


class TwoScripts(Files):
    def test_against_all_files_of_one_stretch(self):
        told = {True: 0, False: 0}
        for one, other in pairs():
            with self.subTest(one=list(one), other=list(other)):
                same = do_the_same(one, other)
                told[same] += 1
                self.assertIs(alike(one, other), same)
                self.assertIs(self.check_parts(one, other) is None, same)
                more = any(makes_more(one, other, file) for file in all_files(length_of(one, other)))
                self.assertIs(never_more(one, other), not more)
                self.assertIs(self.check_more(one, other) is None, not more)
        self.assertGreater(min(told.values()), 20)

    def test_against_files_of_all_lengths(self):
        files = [File(row) for row in rows(7)]
        for one, other in fixed():
            if length_of(one, other) <= 4:
                self.assertIs(alike(one, other), all(one.play(file) == other.play(file) for file in files))
                self.assertIs(never_more(one, other), not any(makes_more(one, other, file) for file in files))

    def test_alike_exactly_if_the_reasons_are_the_same(self):
        for one, other in pairs():
            same = all(reasons(one, cell) == reasons(other, cell) for cell in range(length_of(one, other)))
            self.assertIs(alike(one, other), same)

    def test_common_multiples_up_to_24(self):
        chance = random.Random(24)
        for period in [8, 12, 15, 16, 18, 20, 21, 22, 23, 24]:
            for _ in range(6):
                one, other = some_pair(chance, period, 12)
                length = length_of(one, other)
                file = self.check_parts(one, other)
                self.assertIs(alike(one, other), file is None)
                more, less = self.check_more(one, other), self.check_more(other, one)
                self.assertIs(file is None, more is None and less is None)
                for _ in range(40):
                    tried = File(some_row(chance, length))
                    if file is None:
                        self.assertEqual(one.play(tried), other.play(tried))
                    if more is None:
                        self.assertFalse(makes_more(one, other, tried))

    def test_sizes_of_which_neither_divides_the_other(self):
        one, other = Script([Keep(3)]), Script([Keep(8)])
        self.assertEqual((alike(one, other), never_more(one, other), never_more(other, one)), (False, False, False))
        for first, second in [(one, other), (other, one)]:
            self.check_parts(first, second)
            self.check_more(first, second)
        self.assertIs(alike(Script([Keep(2), Keep(3)] * 4), Script([Keep(6)])), True)
        self.assertIs(never_more(Script([Keep(3), Keep(8)]), Script([Keep(24)])), True)

    def test_a_script_that_is_compared_with_itself(self):
        for one, _ in fixed():
            told = [call(one, one) for call in OF_TWO]
            self.assertEqual(told, [True, None, True, None, True])

    def test_the_scripts_stay(self):
        one, other = Script([Keep(2), Dig(3)]), Script([Lean(2)])
        for call in OF_TWO:
            call(one, other)
        self.assertEqual((one, other), (Script([Keep(2), Dig(3)]), Script([Lean(2)])))


class Exchangeable(Files):
    def test_against_all_files_of_one_stretch(self):
        told = {True: 0, False: 0}
        for one, other in pairs():
            with self.subTest(one=list(one), other=list(other)):
                same = do_the_same(one + other, other + one)
                told[same] += 1
                self.assertIs(exchangeable(one, other), same)
        self.assertGreater(min(told.values()), 20)

    def test_simple_scripts(self):
        told = [
            ([Keep(2)], [Keep(4)], True), ([Keep(2)], [Keep(3)], False), ([Dig(2)], [Dig(3)], True),
            ([Dig(2)], [Keep(2)], True), ([Full()], [Dig(2)], False), ([], [Dig(2), Full()], True),
            ([Lean(4)], [Dig(2)], False), ([Keep(12)], [Keep(8)], False), ([Keep(24)], [Keep(8)], True),
        ]
        for one, other, same in told:
            self.assertIs(exchangeable(Script(one), Script(other)), same)
            self.assertIs(exchangeable(Script(other), Script(one)), same)


class OneScript(unittest.TestCase):
    def scripts(self):
        chance = random.Random(36)
        known = [script for pair in fixed() for script in pair]
        return [*known, *[some_script(chance, divisors(period), 7) for period in [2, 3, 4, 6, 6] for _ in range(12)]]

    def test_needless_against_all_files_of_one_stretch(self):
        for script in self.scripts():
            with self.subTest(list(script)):
                found = [k for k in range(len(script)) if do_the_same(script, script.without(k))]
                self.assertEqual(needless(script), found)

    def test_what_is_kept_against_all_files_of_one_stretch(self):
        told = {(holes, written): 0 for holes in [True, False] for written in [True, False]}
        for script in self.scripts():
            with self.subTest(list(script)):
                files = all_files(script.period)
                holes = all(set(holes_of(file)) <= set(holes_of(script.play(file))) for file in files)
                written = all(set(holes_of(script.play(file))) <= set(holes_of(file)) for file in files)
                told[holes, written] += 1
                self.assertIs(keeps_holes(script), holes)
                self.assertIs(keeps_written(script), written)
        self.assertGreater(min(told.values()), 1)

    def test_simple_scripts(self):
        told = [
            ([], [], True, True), ([Full()], [], False, True), ([Keep(1)], [0], True, True),
            ([Keep(24)], [], False, True), ([Dig(24)], [], True, False), ([Lean(1)], [], True, False),
            ([Lean(2)], [], False, False), ([Full(), Full()], [0, 1], False, True),
            ([Dig(2), Full()], [0], False, True), ([Keep(3), Dig(3), Dig(3)], [1, 2], False, False),
            ([Keep(12), Keep(24), Keep(8)], [0, 2], False, True), ([Dig(4), Dig(8)], [1], True, False),
        ]
        for steps, found, holes, written in told:
            with self.subTest(steps):
                script = Script(steps)
                self.assertEqual(needless(script), found)
                self.assertIs(keeps_holes(script), holes)
                self.assertIs(keeps_written(script), written)
                self.assertEqual(script, Script(steps))

    def test_needless_steps_are_a_new_list(self):
        script = Script([Full(), Full()])
        needless(script).clear()
        self.assertEqual(needless(script), [0, 1])
        self.assertIsNot(needless(script), needless(script))


class Examples(unittest.TestCase):
    def test_the_examples_of_the_document(self):
        two, three, six = Script([Keep(2)]), Script([Keep(3)]), Script([Keep(6)])
        self.assertEqual([
            alike(Script([Lean(4)]), Script([Keep(3), Full(), Dig(4)])), alike(three + two + three, six),
            never_more(two + three, six), parting(two + three, six) is None,
        ], [True, True, True, False])
        self.assertEqual(
            [reasons(Script([Keep(2), Dig(4)]), 0), needless(Script([Keep(2), Dig(4), Keep(4), Keep(2)]))],
            [[([0], []), ([1], []), ([2], [0]), ([2], [1]), ([3], [0]), ([3], [1])], [0, 3]],
        )


class Arguments(unittest.TestCase):
    def test_equal_calls_return_equal_results(self):
        for steps, others in [([Keep(2), Dig(3)], [Keep(6)]), ([Dig(4), Keep(6)], [Lean(12)]), ([], [])]:
            for call in OF_TWO:
                self.assertEqual(call(Script(steps), Script(others)), call(Script(steps), Script(others)))

    def test_arguments_by_name(self):
        for one, other in fixed():
            for call in OF_TWO:
                self.assertEqual(call(other=other, one=one), call(one, other))
            for call in OF_ONE:
                self.assertEqual(call(script=one), call(one))

    def test_what_is_no_script(self):
        script = Script([Keep(2)])
        for value in [*no_scripts(), [Full()]]:
            with self.subTest(value=value):
                for call in OF_TWO:
                    assert_raises_with(self, InvalidScript, value, call, value, script)
                    assert_raises_with(self, InvalidScript, value, call, script, value)
                    assert_raises_with(self, InvalidScript, value, call, other=value, one=script)
                    assert_raises_with(self, InvalidScript, value, call, other=script, one=value)
                for call in OF_ONE:
                    assert_raises_with(self, InvalidScript, value, call, value)
                    assert_raises_with(self, InvalidScript, value, call, script=value)

    def test_the_first_of_two_that_are_no_scripts(self):
        for one in no_scripts():
            for other in [None, [], Full(), 10 ** 40]:
                for call in OF_TWO:
                    assert_raises_with(self, InvalidScript, one, call, one, other)
                    assert_raises_with(self, InvalidScript, one, call, other=other, one=one)

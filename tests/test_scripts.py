"""[22], [23] and [24]: scripts."""

import math
import unittest

from keptholes.errors import InvalidFile, InvalidNumber, InvalidScript
from keptholes.files import File
from keptholes.steps import Dig, Full, Keep, Lean, Script
from tests.values import (
    LARGE, anything, assert_raises_with, no_files, no_numbers, no_scripts, no_steps, rows,
)


def many():
    return [Keep(2), Full(), Dig(5), Lean(3), Keep(2), Dig(1)]


class Made(unittest.TestCase):
    def test_a_script_has_the_steps_it_is_given(self):
        for steps in [[], [Full()], [Keep(3)], many(), many() * 10]:
            self.assertEqual(list(Script(steps)), steps)
            self.assertEqual(list(Script(steps=steps)), steps)
            self.assertEqual(len(Script(steps)), len(steps))

    def test_a_script_without_steps(self):
        for script in [Script(), Script(None), Script([]), Script(steps=None)]:
            self.assertEqual(len(script), 0)
            self.assertEqual(list(script), [])
            self.assertEqual(script, Script([]))

    def test_what_is_no_list(self):
        for value in anything():
            if value is not None and value != []:
                with self.subTest(value=value):
                    assert_raises_with(self, InvalidScript, value, Script, value)
                    assert_raises_with(self, InvalidScript, value, Script, steps=value)

    def test_lists_with_what_is_no_step(self):
        for value in no_steps():
            for steps in [[value], [value, Full()], [Keep(1), value, Full()], [Full()] * 299 + [value]]:
                with self.subTest(steps=steps):
                    assert_raises_with(self, InvalidScript, steps, Script, steps)

    def test_the_list_handed_in_may_be_changed(self):
        steps = [Full(), Keep(2)]
        script = Script(steps)
        steps.append(Dig(1))
        steps[0] = Lean(9)
        self.assertEqual(list(script), [Full(), Keep(2)])

    def test_a_list_that_was_iterated_may_be_changed(self):
        script = Script(many())
        list(script).clear()
        self.assertEqual(list(script), many())
        self.assertEqual([step for _ in script for step in script], many() * 6)


class Told(unittest.TestCase):
    def test_each_step(self):
        script = Script(many())
        self.assertEqual([script[k] for k in range(6)], many())

    def test_without(self):
        for k in range(6):
            left = many()
            del left[k]
            script = Script(many())
            self.assertEqual(script.without(k), Script(left))
            self.assertEqual(script.without(k=k), Script(left))
            self.assertEqual(script, Script(many()))
        self.assertEqual(Script([Full()]).without(0), Script())

    def test_steps_that_are_not_there(self):
        for script in [Script(), Script([Full()]), Script(many())]:
            for k in [-LARGE, -1, len(script), len(script) + 1, LARGE]:
                assert_raises_with(self, InvalidNumber, k, script.__getitem__, k)
                assert_raises_with(self, InvalidNumber, k, script.without, k)
                assert_raises_with(self, InvalidNumber, k, script.without, k=k)

    def test_steps_that_no_number_names(self):
        script = Script(many())
        for value in no_numbers():
            with self.subTest(value=value):
                assert_raises_with(self, InvalidNumber, value, script.__getitem__, value)
                assert_raises_with(self, InvalidNumber, value, script.without, value)
        self.assertEqual(script, Script(many()))


class Joined(unittest.TestCase):
    def test_one_after_the_other(self):
        for one in [[], [Full()], many()]:
            for two in [[], [Keep(4)], many()]:
                first, second = Script(one), Script(two)
                self.assertEqual(list(first + second), one + two)
                self.assertEqual((list(first), list(second)), (one, two))

    def test_with_what_is_no_script(self):
        for script in [Script(), Script(many())]:
            for value in [*no_scripts(), [Full()], []]:
                with self.subTest(value=value):
                    assert_raises_with(self, InvalidScript, value, lambda: script + value)
        self.assertEqual(script, Script(many()))

    def test_done_several_times(self):
        for steps in [[], [Full()], many()]:
            for times in [0, 1, 2, 10]:
                script = Script(steps)
                self.assertEqual(list(script * times), steps * times)
                self.assertEqual(list(script), steps)
        self.assertEqual(len(Script([Keep(1)]) * 60), 60)
        self.assertEqual(Script() * 60, Script())

    def test_done_so_often_as_no_number_says(self):
        for value in [*no_numbers(), -1, -LARGE]:
            for script in [Script(), Script(many())]:
                with self.subTest(value=value):
                    assert_raises_with(self, InvalidNumber, value, lambda: script * value)

    def test_what_is_made_is_new(self):
        script = Script(many())
        for made in [script + Script(), Script() + script, script * 1, Script(list(script))]:
            self.assertIsNot(made, script)
            self.assertEqual(made, script)

    def test_scripts_never_change(self):
        script = kept = Script([Full()])
        script += Script([Keep(2)])
        self.assertEqual((list(script), list(kept)), ([Full(), Keep(2)], [Full()]))
        script = kept
        script *= 3
        self.assertEqual((list(script), list(kept)), ([Full()] * 3, [Full()]))
        with self.assertRaises(AttributeError):
            script.period = 2
        with self.assertRaises(TypeError):
            script[0] = Keep(1)


class Equal(unittest.TestCase):
    def test_scripts_are_equal_if_their_steps_are_in_order(self):
        told = [[], [Full()], [Keep(2)], [Lean(2)], [Keep(2), Full()], [Full(), Keep(2)], [Full(), Full()], many()]
        for at, one in enumerate(told):
            for other, two in enumerate(told):
                self.assertIs(Script(one) == Script(two), at == other)
                self.assertIs(Script(one) != Script(two), at != other)

    def test_scripts_of_other_steps_that_do_the_same_are_not_equal(self):
        self.assertNotEqual(Script([Full()]), Script([Full(), Full()]))
        self.assertEqual(Script([Full()]) * 2, Script([Full(), Full()]))

    def test_a_script_is_not_equal_to_any_other_object(self):
        class Sly:
            def __eq__(self, other):
                return True
        for script in [Script(), Script([Full()])]:
            for other in [*no_scripts(), list(script), tuple(script), Sly()]:
                with self.subTest(other=other):
                    self.assertIs(script == other, False)
                    self.assertIs(script != other, True)


class Played(unittest.TestCase):
    def test_steps_are_done_one_after_another(self):
        script = Script([Keep(2), Dig(3), Lean(4), Keep(3)])
        for cells in rows(6):
            file = File(cells)
            made = []
            for step in script:
                file = step.play(file)
                made.append(file)
            self.assertEqual(script.play(File(cells)), made[-1])
            self.assertEqual(script.traces(File(cells)), made)
            self.assertEqual(script.play(file=File(cells)), made[-1])
            self.assertEqual(script.traces(file=File(cells)), made)

    def test_the_order_of_the_steps_counts(self):
        file = File("0...a...")
        self.assertEqual(Script([Keep(2), Dig(4)]).play(file).cells, "....a0..")
        self.assertEqual(Script([Dig(4), Keep(2)]).play(file).cells, "....a0..")
        self.assertEqual(Script([Full(), Dig(4)]).play(file).cells, "....a000")
        self.assertEqual(Script([Dig(4), Full()]).play(file).cells, "0000a000")

    def test_a_script_without_steps(self):
        for cells in ["", "a.0"]:
            self.assertEqual(Script().play(File(cells)), File(cells))
            self.assertEqual(Script().traces(File(cells)), [])

    def test_files_without_cells(self):
        self.assertEqual(Script(many()).play(File()), File())
        self.assertEqual(Script(many()).traces(File()), [File()] * 6)

    def test_the_file_itself_stays(self):
        file = File("a..0.")
        Script(many()).play(file), Script(many()).traces(file)
        self.assertEqual(file.cells, "a..0.")

    def test_traces_are_a_new_list(self):
        script, file = Script([Full(), Dig(2)]), File("a..")
        first = script.traces(file)
        first.clear()
        self.assertEqual(script.traces(file), [File("a00"), File("a0.")])
        self.assertIsNot(script.traces(file), script.traces(file))

    def test_what_is_no_file(self):
        for script in [Script(), Script(many())]:
            for value in no_files():
                with self.subTest(value=value):
                    assert_raises_with(self, InvalidFile, value, script.play, value)
                    assert_raises_with(self, InvalidFile, value, script.play, file=value)
                    assert_raises_with(self, InvalidFile, value, script.traces, value)
                    assert_raises_with(self, InvalidFile, value, script.traces, file=value)

    def test_the_example_of_the_document(self):
        file = File("0....a......")
        one, two, three = Script([Keep(2), Dig(5), Keep(3)]).traces(file)
        told = [
            Full().play(file).cells, Keep(4).play(file).cells, Lean(4).play(file).cells, Dig(4).play(file).cells,
            one.cells, two.cells, three.cells,
        ]
        self.assertEqual(told, [
            "00000a000000", "00000a00....", "....0a00....", ".....a......", "00..0a......", ".....a......",
            "...00a......",
        ])


class Period(unittest.TestCase):
    def test_without_sizes_it_is_1(self):
        for script in [Script(), Script([Full()]), Script([Full()]) * 60]:
            self.assertEqual(script.period, 1)

    def test_it_is_the_least_common_multiple(self):
        told = [
            ([Keep(1)], 1), ([Keep(7)], 7), ([Keep(4), Lean(6)], 12), ([Dig(6), Keep(4), Full(), Lean(10)], 60),
            ([Keep(2), Keep(4), Keep(8)], 8), ([Dig(3), Dig(3)], 3), ([Lean(5), Dig(7)], 35),
        ]
        for steps, period in told:
            self.assertEqual(Script(steps).period, period)

    def test_sizes_of_forty_figures(self):
        one, two = 10 ** 39, LARGE
        self.assertEqual(Script([Keep(one), Lean(two)]).period, one * two)
        self.assertEqual(Script([Keep(one), Lean(one * 3), Dig(one * 2)]).period, one * 6)
        sizes = [LARGE - k for k in range(60)]
        self.assertEqual(Script([Keep(size) for size in sizes]).period, math.lcm(*sizes))

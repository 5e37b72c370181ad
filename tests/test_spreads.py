"""[40] and [41]: spreads."""

import math
import random
import unittest

from keptholes.errors import InvalidList, InvalidNumber
from keptholes.files import File
from keptholes.spreads import rounds_spread, settles, spread
from keptholes.steps import Keep, Script
from tests.values import LARGE, anything, assert_raises_with, no_numbers, numbers

FORTY = 10 ** 39


def no_sizes():
    return [*no_numbers(), 0, -1, -LARGE]


def no_counts():
    return [*no_numbers(), -1, -LARGE]


def played(steps, cell, length):
    """The stretch that is written in a file of this length that has just this cell written at first."""
    file = Script(steps).play(File("." * cell + "0" + "." * (length - cell - 1)))
    (stretch,) = file.stretches()
    return stretch


def one_by_one(one, other, rounds, cell):
    begin, end = cell, cell + 1
    for size in [one, other] * rounds:
        begin, end = begin // size * size, (end + size - 1) // size * size
    return begin, end


class Spread(unittest.TestCase):
    def test_against_the_steps(self):
        chance = random.Random(40)
        for _ in range(300):
            sizes = [chance.randint(1, 9) for _ in range(chance.randint(0, 5))]
            cell = chance.randint(0, 60)
            self.assertEqual(spread(sizes, cell), played([Keep(size) for size in sizes], cell, 150))

    def test_all_small_sizes(self):
        for one in range(1, 8):
            for other in range(1, 8):
                for cell in range(2 * one * other):
                    self.assertEqual(spread([one, other], cell), played([Keep(one), Keep(other)], cell, 130))

    def test_without_sizes(self):
        for cell in [0, 1, 300, LARGE]:
            self.assertEqual(spread([], cell), (cell, cell + 1))

    def test_signs_and_longer_stretches_do_the_same(self):
        file = File("...a0...........")
        begin, end = Script([Keep(2), Keep(5), Keep(3)]).play(file).stretches()[0]
        self.assertEqual((begin, end), (spread([2, 5, 3], 3)[0], spread([2, 5, 3], 4)[1]))

    def test_sizes_and_cells_of_forty_figures(self):
        self.assertEqual(spread([FORTY], 5), (0, FORTY))
        self.assertEqual(spread([FORTY, FORTY + 1], 5), (0, FORTY + 1))
        self.assertEqual(spread([FORTY + 1, FORTY], 5), (0, 2 * FORTY))
        self.assertEqual(spread([7, FORTY], LARGE), (9 * FORTY, 11 * FORTY))
        self.assertEqual(spread([3], LARGE), (LARGE, LARGE + 3))
        self.assertEqual(spread([LARGE], LARGE), (LARGE, 2 * LARGE))
        self.assertEqual(spread([LARGE], LARGE - 1), (0, LARGE))
        self.assertEqual(spread([1] * 300, LARGE), (LARGE, LARGE + 1))

    def test_what_is_told_is_a_tuple(self):
        for told in [spread([], 1), spread([4, 6], 5), rounds_spread(2, 3, 0, 1), rounds_spread(2, 3, 4, 1)]:
            self.assertIs(type(told), tuple)
            self.assertEqual([type(bound) for bound in told], [int, int])

    def test_the_list_stays(self):
        sizes = [4, 6]
        spread(sizes, 5)
        self.assertEqual(sizes, [4, 6])


class Rounds(unittest.TestCase):
    def test_against_the_steps(self):
        for one in range(1, 8):
            for other in range(1, 8):
                for rounds in range(7):
                    steps = [Keep(one), Keep(other)] * rounds
                    for cell in {0, 1, one, other, one * other - 1, one * other // 2, one + other}:
                        self.assertEqual(rounds_spread(one, other, rounds, cell), played(steps, cell, 110))

    def test_against_the_sizes_one_by_one(self):
        for one in range(1, 13):
            for other in range(1, 13):
                for rounds in range(14):
                    for cell in range(0, 2 * one * other, 1 + one * other // 9):
                        told = rounds_spread(one, other, rounds, cell)
                        self.assertEqual(told, one_by_one(one, other, rounds, cell))
                        self.assertEqual(told, spread([one, other] * rounds, cell))

    def test_larger_sizes_one_by_one(self):
        chance = random.Random(41)
        for _ in range(300):
            one, other = chance.randint(1, 10 ** 12), chance.randint(1, 10 ** 12)
            if chance.random() < 0.5:
                one, other = one * 6, chance.randint(1, 40) * one
            rounds, cell = chance.randint(0, 50), chance.randint(0, 10 ** 15)
            self.assertEqual(rounds_spread(one, other, rounds, cell), one_by_one(one, other, rounds, cell))

    def test_no_round(self):
        for one, other in [(1, 1), (5, 7), (LARGE, 2)]:
            for cell in [0, 17, LARGE]:
                self.assertEqual(rounds_spread(one, other, 0, cell), (cell, cell + 1))

    def test_sizes_one_of_which_divides_the_other(self):
        for rounds in [1, 2, LARGE]:
            self.assertEqual(rounds_spread(1, 1, rounds, LARGE), (LARGE, LARGE + 1))
            self.assertEqual(rounds_spread(FORTY, 10 ** 20, rounds, 5), (0, FORTY))
            self.assertEqual(rounds_spread(10 ** 20, FORTY, rounds, FORTY), (FORTY, 2 * FORTY))
            self.assertEqual(rounds_spread(LARGE, LARGE, rounds, LARGE), (LARGE, 2 * LARGE))

    def test_forty_figures(self):
        one, other = FORTY, FORTY + 1
        rounds = 10 ** 38 + 7
        self.assertEqual(rounds_spread(one, other, rounds, 5), (0, rounds * other))
        self.assertEqual(rounds_spread(other, one, rounds, 5), (0, (rounds + 1) * one))
        self.assertEqual(rounds_spread(one, other, FORTY, 5), (0, one * other))
        self.assertEqual(rounds_spread(one, other, FORTY - 1, 5), (0, (FORTY - 1) * other))
        self.assertEqual(rounds_spread(one, other, LARGE, LARGE), (0, one * other))
        self.assertEqual(rounds_spread(2, LARGE, 1, LARGE), (0, 2 * LARGE))
        self.assertEqual(rounds_spread(2, LARGE, LARGE, 2 * LARGE), (2 * LARGE, 4 * LARGE))

    def large_calls(self):
        chance = random.Random(42)
        for _ in range(200):
            one, other, cell = [chance.randint(1, 10 ** chance.randint(1, 40) - 1) for _ in range(3)]
            if chance.random() < 0.5:
                common = chance.randint(1, 10 ** 15)
                one, other = chance.randint(1, 10 ** 20) * common, chance.randint(1, 10 ** 20) * common
            yield one, other, chance.randint(0, 10 ** chance.randint(1, 40) - 1), cell, chance

    def test_rounds_after_rounds(self):
        # The bounds spread further as the cells beside them do.
        for one, other, rounds, cell, chance in self.large_calls():
            first = chance.randint(0, rounds)
            begin, end = rounds_spread(one, other, first, cell)
            self.assertEqual(rounds_spread(one, other, rounds, cell), (
                rounds_spread(one, other, rounds - first, begin)[0],
                rounds_spread(one, other, rounds - first, end - 1)[1],
            ))

    def test_one_more_round(self):
        for one, other, rounds, cell, _ in self.large_calls():
            begin, end = rounds_spread(one, other, rounds, cell)
            self.assertEqual(
                rounds_spread(one, other, rounds + 1, cell),
                (spread([one, other], begin)[0], spread([one, other], end - 1)[1]),
            )

    def test_rounds_that_change_nothing_any_more(self):
        for one, other, _, cell, _ in self.large_calls():
            both = math.lcm(one, other)
            enough = settles(one, other)
            told = rounds_spread(one, other, enough, cell)
            self.assertEqual([bound % both for bound in told], [0, 0])
            for rounds in [enough + 1, enough * 2, LARGE + enough]:
                self.assertEqual(rounds_spread(one, other, rounds, cell), told)


class Settles(unittest.TestCase):
    def changing(self, one, other, rounds):
        """Whether one more round changes what becomes of some cell."""
        cells = range(2 * math.lcm(one, other))
        return any(
            one_by_one(one, other, rounds, cell) != one_by_one(one, other, rounds + 1, cell) for cell in cells
        )

    def test_the_least_number_of_rounds(self):
        for one in range(1, 13):
            for other in range(1, 13):
                rounds = 1
                while self.changing(one, other, rounds):
                    rounds += 1
                self.assertEqual(settles(one, other), rounds, (one, other))

    def test_against_whole_files(self):
        for one in range(1, 6):
            for other in range(1, 6):
                once = Script([Keep(one), Keep(other)])
                files = [
                    File("." * cell + "0" + "." * (length - cell - 1))
                    for length in [7, 24, 41] for cell in range(length)
                ]
                files += [File("0" + "." * 20 + "a" + "." * 18 + "0"), File("." * 40), File()]
                enough = settles(one, other)
                for file in files:
                    made = (once * enough).play(file)
                    self.assertEqual(once.play(made), made)
                if enough > 1:
                    made = [(once * (enough - 1)).play(file) for file in files]
                    self.assertNotEqual([once.play(file) for file in made], made)

    def test_one_size_divides_the_other(self):
        for one, other in [(1, 1), (1, LARGE), (10 ** 20, FORTY), (LARGE, LARGE), (300, 3)]:
            self.assertEqual(settles(one, other), 1)
            self.assertEqual(settles(other, one), 1)

    def test_forty_figures(self):
        self.assertEqual(settles(FORTY, FORTY + 1), FORTY)
        self.assertEqual(settles(FORTY + 1, FORTY), FORTY)
        self.assertEqual(settles(2 * FORTY, 3 * FORTY), 2)
        self.assertEqual(settles(LARGE, 7), 7)
        self.assertEqual(settles(LARGE - 1, LARGE), LARGE - 1)

    def test_one_round_less_is_not_enough(self):
        for one, other in [(FORTY, FORTY + 1), (FORTY + 1, FORTY), (6 * FORTY, 9 * FORTY), (LARGE, 700)]:
            enough = settles(one, other)
            self.assertNotEqual(
                rounds_spread(one, other, enough, 0), rounds_spread(one, other, enough - 1, 0),
            )


class Examples(unittest.TestCase):
    def test_the_examples_of_the_document(self):
        told = [
            spread([4, 6], 5), rounds_spread(5, 7, 2, 17), settles(5, 7), settles(7, 5),
            rounds_spread(10 ** 20, 10 ** 20 + 1, 10 ** 18, 5) == (0, 10 ** 38 + 10 ** 18),
        ]
        self.assertEqual(told, [(0, 12), (7, 28), 5, 5, True])


class Arguments(unittest.TestCase):
    def test_arguments_by_name(self):
        self.assertEqual(spread(cell=5, sizes=[4, 6]), (0, 12))
        self.assertEqual(rounds_spread(cell=17, rounds=2, other=7, one=5), (7, 28))
        self.assertEqual(rounds_spread(5, 7, cell=17, rounds=2), (7, 28))
        self.assertEqual(settles(other=6, one=4), settles(4, 6))

    def test_what_is_no_list_of_sizes(self):
        for value in anything():
            if value not in ([], [1]):
                with self.subTest(value=value):
                    assert_raises_with(self, InvalidList, value, spread, value, 0)
                    assert_raises_with(self, InvalidList, value, spread, cell=0, sizes=value)
        sizes = (1, 2)
        assert_raises_with(self, InvalidList, sizes, spread, sizes, 0)

    def test_lists_with_what_is_no_size(self):
        for value in no_sizes():
            for sizes in [[value], [1, value], [value, 1], [1] * 299 + [value]]:
                with self.subTest(sizes=sizes):
                    assert_raises_with(self, InvalidList, sizes, spread, sizes, 0)

    def test_what_is_no_cell(self):
        for value in no_counts():
            for sizes in [[], [1], [4, 6]]:
                with self.subTest(value=value):
                    assert_raises_with(self, InvalidNumber, value, spread, sizes, value)
                    assert_raises_with(self, InvalidNumber, value, spread, cell=value, sizes=sizes)

    def test_the_list_is_looked_at_first(self):
        for value in no_counts():
            for sizes in [None, (), [0], [True]]:
                assert_raises_with(self, InvalidList, sizes, spread, sizes, value)
                assert_raises_with(self, InvalidList, sizes, spread, cell=value, sizes=sizes)

    def test_what_is_no_size(self):
        for value in no_sizes():
            with self.subTest(value=value):
                assert_raises_with(self, InvalidNumber, value, rounds_spread, value, 7, 2, 17)
                assert_raises_with(self, InvalidNumber, value, rounds_spread, 5, value, 2, 17)
                assert_raises_with(self, InvalidNumber, value, settles, value, 7)
                assert_raises_with(self, InvalidNumber, value, settles, 5, value)
                assert_raises_with(self, InvalidNumber, value, settles, other=value, one=5)

    def test_what_is_no_number_of_rounds_and_no_cell(self):
        for value in no_counts():
            with self.subTest(value=value):
                assert_raises_with(self, InvalidNumber, value, rounds_spread, 5, 7, value, 17)
                assert_raises_with(self, InvalidNumber, value, rounds_spread, 5, 7, 2, value)
                assert_raises_with(self, InvalidNumber, value, rounds_spread, 5, 7, 0, value)
                assert_raises_with(self, InvalidNumber, value, rounds_spread, cell=value, rounds=2, other=7, one=5)

    def test_numbers_are_looked_at_in_the_order_of_the_parameters(self):
        wrong = ["one", [2], None, (4,)]
        right = [5, 7, 2, 17]
        for first in range(4):
            for second in range(first + 1, 4):
                args = list(right)
                args[first], args[second] = wrong[first], wrong[second]
                assert_raises_with(self, InvalidNumber, wrong[first], rounds_spread, *args)
                named = dict(reversed(list(zip(["one", "other", "rounds", "cell"], args))))
                assert_raises_with(self, InvalidNumber, wrong[first], rounds_spread, **named)
        assert_raises_with(self, InvalidNumber, wrong[0], settles, wrong[0], wrong[1])
        assert_raises_with(self, InvalidNumber, wrong[0], settles, other=wrong[1], one=wrong[0])

    def test_numbers_that_may_stand_there(self):
        for value in numbers():
            if value >= 0:
                self.assertEqual(spread([], value), (value, value + 1))
                self.assertEqual(rounds_spread(1, 1, value, 3), (3, 4))
                self.assertEqual(rounds_spread(1, 1, 3, value), (value, value + 1))
            if value >= 1:
                self.assertEqual(settles(value, 1), 1)

"""[81]: copiers."""

import gc
import random
import unittest

from keptholes.copies import copy_moments
from keptholes.errors import Busy, Closed, InvalidNumber, InvalidScript, InvalidWrite
from keptholes.files import File
from keptholes.histories import History
from keptholes.steps import Dig, Full, Keep, Script
from keptholes.stores import Copier, Store
from keptholes.texts import write_history, write_script
from tests.test_stores import some_change
from tests.values import LARGE, assert_raises_with, no_numbers, reading_order, some_row

BOTH = [False, True]
WRONG = [[], ["x"], -1, LARGE, True]


class Model:
    """What [81] says of a copier, deed by deed."""

    def __init__(self, copier, file, size, down):
        self.copier = copier
        self.history = History(file)
        self.size = size
        self.down = down
        self.left = reading_order(len(file), size, down)
        self.taken = []
        self.closed = False

    def going(self):
        return bool(self.left) and not self.closed

    def wrote(self, write):
        if self.going():
            self.history += write

    def read(self, content):
        if not self.left:
            return None
        block, begin, end = self.left.pop(0)
        self.taken.append((block, content[begin:end]))
        return self.taken[-1]

    def copied(self):
        return None if self.left else "".join(content for _, content in sorted(self.taken))

    def check(self, test):
        copier = self.copier
        test.assertEqual(copier.taken, self.taken)
        test.assertIs(copier.ended, not self.left)
        test.assertEqual(copier.history, self.history)
        test.assertEqual(copier.copied(), self.copied())
        if not self.left:
            told = copy_moments(copier.history, self.size, copier.copied(), down=self.down)
            test.assertIsNotNone(told)


class Together:
    """A store, and all copiers that were made of it."""

    def __init__(self, test, chance, file):
        self.test = test
        self.chance = chance
        self.store = Store(file)
        self.models = []
        self.files = [file]

    def busy(self):
        return any(model.going() for model in self.models)

    def begin(self):
        size, down = self.chance.randint(1, 4), self.chance.choice(BOTH)
        self.models.append(Model(self.store.copier(size, down=down), self.store.file, size, down))

    def read(self):
        model = self.chance.choice(self.models)
        if model.closed:
            with self.test.assertRaises(Closed):
                model.copier.read()
        else:
            self.test.assertEqual(model.copier.read(), model.read(self.store.file.content))

    def close(self):
        model = self.chance.choice(self.models)
        self.test.assertIsNone(model.copier.close())
        model.closed = True

    def change(self):
        name, args, file = some_change(self.chance, self.store.file)
        if self.busy() and name in ("cut", "grow"):
            with self.test.assertRaises(Busy):
                getattr(self.store, name)(*args)
            return
        getattr(self.store, name)(*args)
        self.files.append(file)
        for model in self.models:
            if name == "write":
                model.wrote(args)
            elif name == "punch" and args[0] < args[1]:
                model.wrote((args[0], "0" * (args[1] - args[0])))

    def back(self):
        if self.busy():
            with self.test.assertRaises(Busy):
                self.store.back()
        else:
            self.test.assertIs(self.store.back(), len(self.files) > 1)
            self.files = self.files[:-1] or self.files

    def check(self):
        self.test.assertEqual((self.store.file, self.store.made), (self.files[-1], len(self.files) - 1))
        for model in self.models:
            model.check(self.test)


class Several(unittest.TestCase):
    def test_deed_by_deed(self):
        chance = random.Random(81)
        for _ in range(120):
            together = Together(self, chance, File(some_row(chance, chance.randint(0, 7))))
            for _ in range(40):
                deeds = [together.begin, together.change, together.change, together.back]
                if together.models:
                    deeds += [together.read, together.read, together.read, together.read, together.close]
                chance.choice(deeds)()
                together.check()


class Reading(unittest.TestCase):
    def test_block_by_block(self):
        for down in BOTH:
            copier = Store(File("ab.0c")).copier(2, down=down)
            told = [(0, "ab"), (1, "00"), (2, "c")][::-1 if down else 1]
            for count in range(3):
                self.assertEqual((copier.taken, copier.ended, copier.copied()), (told[:count], False, None))
                piece = copier.read()
                self.assertEqual((piece, type(piece)), (told[count], tuple))
            for _ in range(3):
                self.assertEqual((copier.taken, copier.ended, copier.copied()), (told, True, "ab00c"))
                self.assertIsNone(copier.read())

    def test_what_is_written_meanwhile(self):
        for down in BOTH:
            store = Store(File("aaa"))
            copier = store.copier(1, down=down)
            copier.read()
            store.write(0, "bbb")
            copier.read()
            store.punch(0, 3, 1)
            copier.read()
            store.write(0, "ccc")
            self.assertEqual(copier.copied(), "0ba" if down else "ab0")
            self.assertEqual(copier.history, History(File("aaa"), [(0, "bbb"), (0, "000")]))
            self.assertEqual(store.file, File("ccc"))

    def test_one_block_and_large_sizes(self):
        for size in [3, 4, 300, LARGE]:
            for down in BOTH:
                copier = Store(File("a.b")).copier(size, down=down)
                self.assertEqual((copier.read(), copier.ended, copier.copied()), ((0, "a0b"), True, "a0b"))

    def test_a_file_without_cells_has_ended_at_once(self):
        for down in BOTH:
            store = Store()
            copier = store.copier(2, down=down)
            self.check_empty(copier)
            store.grow(3)
            store.write(0, "abc")
            self.check_empty(copier)
            self.assertIs(store.back(), True)
            store.cut(1)
            copier.close()
            self.assertEqual((copier.taken, copier.ended, copier.copied()), ([], True, ""))
            self.assertEqual(copier.history, History(File()))
            with self.assertRaises(Closed):
                copier.read()

    def check_empty(self, copier):
        self.assertIsNone(copier.read())
        self.assertEqual((copier.taken, copier.ended, copier.copied()), ([], True, ""))
        self.assertEqual(copier.history, History(File()))

    def test_what_a_copier_is_made_with(self):
        store = Store(File("ab"))
        for copier in [
            store.copier(1), store.copier(size=1), store.copier(1, down=False), store.copier(down=False, size=1),
        ]:
            self.assertIs(type(copier), Copier)
            self.assertEqual(copier.read(), (0, "a"))
        for copier in [store.copier(1, down=True), store.copier(down=True, size=1)]:
            self.assertEqual(copier.read(), (1, "b"))
        with self.assertRaises(TypeError):
            store.copier(1, True)
        with self.assertRaises(TypeError):
            store.copier()

    def test_the_example_of_the_document(self):
        store = Store(File("aa.."))
        copier = store.copier(2)
        first = copier.read()
        store.write(0, "b")
        store.write(2, "c")
        second = copier.read()
        told = [
            first, second, copier.copied(), store.file.cells, copy_moments(copier.history, 2, "aac0"),
            write_history(copier.history), write_script(Script([Keep(4), Full()])),
        ]
        self.assertEqual(told, [
            (0, "aa"), (1, "c0"), "aac0", "bac.", [0, 2], "aa..\n0 b\n2 c", "keep 4\nfull",
        ])


class Histories(unittest.TestCase):
    def test_writes_and_punches_and_nothing_else(self):
        store = Store(File("ab0.."))
        store.write(0, "z")
        copier = store.copier(9)
        self.assertEqual(copier.history, History(File("zb0..")))
        store.run(Script([Full(), Dig(1)]))
        store.punch(1, 1, 3)
        store.punch(5, 5, 1)
        self.assertEqual(copier.history, History(File("zb0..")))
        store.punch(1, 4, 2)
        store.write(3, "c0")
        store.write(3, "c0")
        store.punch(0, 1, 1)
        told = [(1, "000"), (3, "c0"), (3, "c0"), (0, "0")]
        self.assertEqual(copier.history, History(File("zb0.."), told))
        self.assertEqual(copier.history.states()[-1], store.file.content)

    def test_what_was_refused_is_not_in_it(self):
        store = Store(File("ab"))
        copier = store.copier(1)
        for error, call, *args in [
            (InvalidWrite, store.write, 1, "cc"), (InvalidNumber, store.punch, 0, 3, 1),
            (InvalidNumber, store.punch, 0, 2, 0), (InvalidScript, store.run, None), (Busy, store.cut, 1),
        ]:
            with self.assertRaises(error):
                call(*args)
        self.assertEqual((copier.history, store.made), (History(File("ab")), 0))

    def test_once_it_has_ended_nothing_of_it_changes(self):
        for down in BOTH:
            store = Store(File("abc"))
            copier = store.copier(2, down=down)
            store.write(1, "x")
            copier.read()
            copier.read()
            for change in [
                lambda: store.write(0, "zzz"), lambda: store.punch(0, 3, 1), lambda: store.cut(1), lambda: store.cut(0),
                lambda: store.grow(9), store.back, store.back, store.back, store.back, store.back, copier.close,
            ]:
                change()
                self.assertEqual(sorted(copier.taken), [(0, "ax"), (1, "c")])
                self.assertEqual((copier.ended, copier.copied()), (True, "axc"))
                self.assertEqual(copier.history, History(File("abc"), [(1, "x")]))

    def test_it_goes_on_until_it_is_closed(self):
        store = Store(File("abc"))
        copier = store.copier(1)
        copier.read()
        store.write(0, "z")
        for _ in range(3):
            self.assertIsNone(copier.close())
            self.assertEqual((copier.taken, copier.ended, copier.copied()), ([(0, "a")], False, None))
            self.assertEqual(copier.history, History(File("abc"), [(0, "z")]))
            with self.assertRaises(Closed):
                copier.read()
            store.write(0, "yyy")
            store.punch(0, 2, 1)
            store.grow(len(store.file) + 1)

    def test_what_is_told_may_be_changed(self):
        store = Store(File("ab"))
        copier = store.copier(1)
        for _ in range(4):
            taken, history = copier.taken, copier.history
            copier.taken.append((7, "z"))
            copier.taken.clear()
            told = copier.history
            told += (0, "zz")
            self.assertIsNot(copier.taken, copier.taken)
            self.assertIsNot(copier.history, copier.history)
            self.assertEqual((copier.taken, copier.history), (taken, history))
            copier.read()
            store.write(0, "c")
        self.assertEqual((taken, history), ([(0, "a"), (1, "b")], History(File("ab"), [(0, "c")])))

    def test_what_was_told_stays_as_it_was(self):
        store = Store(File("ab"))
        copier = store.copier(1)
        taken, history = copier.taken, copier.history
        copier.read()
        store.write(0, "c")
        self.assertEqual((taken, history), ([], History(File("ab"))))

    def test_properties_are_not_assigned(self):
        copier = Store(File("ab")).copier(1)
        for name in ["taken", "ended", "history"]:
            with self.assertRaises(AttributeError):
                setattr(copier, name, None)


class Closing(unittest.TestCase):
    def test_with(self):
        store = Store(File("abc"))
        made = store.copier(2)
        with made as copier:
            self.assertIs(copier, made)
            self.assertEqual(copier.read(), (0, "ab"))
            with self.assertRaises(Busy):
                store.cut(1)
        with self.assertRaises(Closed):
            copier.read()
        self.assertEqual((copier.taken, copier.ended, copier.copied()), ([(0, "ab")], False, None))
        store.cut(1)
        self.assertEqual(copier.history, History(File("abc")))

    def test_with_until_it_has_ended(self):
        store = Store(File("abc"))
        with store.copier(4, down=True) as copier:
            self.assertEqual((copier.read(), copier.read()), ((0, "abc"), None))
            store.cut(1)
        self.assertEqual((copier.taken, copier.ended, copier.copied()), ([(0, "abc")], True, "abc"))
        with self.assertRaises(Closed):
            copier.read()

    def test_with_an_error(self):
        for error in [ValueError("x"), Busy(), Closed(), InvalidNumber(1), KeyError(1)]:
            store = Store(File("abc"))
            with self.assertRaises(type(error)) as caught:
                with store.copier(2) as copier:
                    copier.read()
                    raise error
            self.assertIs(caught.exception, error)
            with self.assertRaises(Closed):
                copier.read()
            store.cut(0)

    def test_with_several(self):
        store = Store(File("abc"))
        with store.copier(2) as one, store.copier(1, down=True) as other:
            self.assertEqual((one.read(), other.read()), ((0, "ab"), (2, "c")))
            one.close()
            with self.assertRaises(Busy):
                store.grow(4)
            self.assertEqual(other.read(), (1, "b"))
        store.grow(4)

    def test_closed_comes_before_the_end(self):
        copier = Store(File("a")).copier(1)
        copier.read()
        self.assertIsNone(copier.read())
        copier.close()
        with self.assertRaises(Closed) as caught:
            copier.read()
        self.assertIs(type(caught.exception), Closed)


class BusyStores(unittest.TestCase):
    def check_busy(self, store):
        file, made = store.file, store.made
        calls = [store.back]
        for call in [store.cut, store.grow]:
            calls += [lambda call=call, value=value: call(value) for value in [0, len(file), 300, None, *WRONG]]
            calls += [lambda call=call: call(length="x")]
        for call in calls:
            with self.assertRaises(Busy) as caught:
                call()
            self.assertIs(type(caught.exception), Busy)
        self.assertEqual((store.file, store.made), (file, made))

    def check_free(self, store):
        made = store.made
        store.cut(len(store.file))
        store.grow(len(store.file))
        self.assertEqual(store.made, made + 2)
        self.assertEqual((store.back(), store.back(), store.made), (True, True, made))
        for value in [*no_numbers(), -1]:
            assert_raises_with(self, InvalidNumber, value, store.cut, value)
            assert_raises_with(self, InvalidNumber, value, store.grow, value)

    def test_before_anything_else(self):
        store = Store(File("abc"))
        store.copier(2)
        self.check_busy(store)
        store.write(0, "z")
        self.check_busy(store)

    def test_until_it_has_ended(self):
        for down in BOTH:
            store = Store(File("abc"))
            copier = store.copier(2, down=down)
            self.check_busy(store)
            copier.read()
            self.check_busy(store)
            copier.read()
            self.check_free(store)

    def test_until_it_is_closed(self):
        store = Store(File("abc"))
        copier = store.copier(2)
        copier.read()
        copier.close()
        self.check_free(store)

    def test_until_the_last_of_several(self):
        store = Store(File("abc"))
        one, two, three = store.copier(3), store.copier(1), store.copier(2, down=True)
        one.read()
        self.check_busy(store)
        three.close()
        self.check_busy(store)
        four = store.copier(3)
        two.close()
        self.check_busy(store)
        four.read()
        self.check_free(store)

    def test_a_copier_that_was_dropped(self):
        store = Store(File("abc"))
        store.copier(3).read()
        self.check_free(store)
        store.copier(3)
        gc.collect()
        self.check_busy(store)
        store.copier(3).read()
        store.copier(3).close()
        gc.collect()
        self.check_busy(store)

    def test_other_changes_go_on(self):
        store = Store(File("abc"))
        store.copier(1)
        store.write(0, "z")
        store.punch(1, 2, 1)
        store.run(Script([Full()]))
        store.copier(2)
        self.assertEqual((store.file, store.made), (File("z0c"), 3))

    def test_copiers_of_other_stores_do_not_matter(self):
        file = File("abc")
        one, other = Store(file), Store(file)
        copier = one.copier(1)
        other.write(0, "zzz")
        self.check_free(other)
        self.check_busy(one)
        self.assertEqual((copier.read(), copier.history), ((0, "a"), History(file)))

    def test_a_size_that_is_none_does_not_make_a_copier(self):
        store = Store(File("abc"))
        store.copier(1)
        for value in [*no_numbers(), 0, -1]:
            assert_raises_with(self, InvalidNumber, value, store.copier, value)

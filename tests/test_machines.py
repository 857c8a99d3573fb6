import unittest
from itertools import product

from fademill.errors import BadCell, BadLives, BadMachine
from fademill.machines import behind_set, behind_touch, behind_wait
from tests import junk, plain

SHARED = ((3, 2, 4), (0, 1, 0))


class Deeds(unittest.TestCase):
    def test_the_example(self):
        self.assertEqual(behind_touch(SHARED, (2, 2, 0), 0), (3, 1, 0))
        self.assertEqual(behind_set(SHARED, (2, 2, 0), 2), (3, 1, 4))
        self.assertEqual(behind_wait(SHARED, (1, 0, 4)), (0, 0, 3))

    def test_a_touch_of_a_lost_cell_keeps_the_others_of_its_row(self):
        self.assertEqual(behind_touch(SHARED, (1, 2, 0), 2), (3, 1, 0))
        self.assertEqual(behind_touch(SHARED, (0, 0, 0), 0), (0, 0, 0))

    def test_a_set_keeps_its_row_and_no_other_lost_cell(self):
        self.assertEqual(behind_set(SHARED, (1, 1, 1), 0), (3, 0, 4))
        self.assertEqual(behind_set(SHARED, (0, 0, 0), 0), (3, 0, 0))

    def test_the_last_tick_of_a_life(self):
        self.assertEqual(behind_touch(((1,), (0,)), (1,), 0), (1,))
        self.assertEqual(behind_wait(((1,), (0,)), (1,)), (0,))
        self.assertEqual(behind_wait(((8,), (0,)), (8,)), (7,))

    def test_limits(self):
        four = ((8, 1, 8, 1), (0, 1, 2, 3))
        self.assertEqual(behind_touch(four, (8, 1, 1, 0), 2), (7, 0, 8, 0))
        self.assertEqual(behind_set(four, (0, 0, 0, 0), 3), (0, 0, 0, 1))

    def test_all_lives_of_some_machines(self):
        for machine in [SHARED, ((2, 2), (0, 0)), ((3, 1), (0, 1)), ((1, 2, 2, 1), (0, 1, 1, 0))]:
            for lives in product(*[range(fade + 1) for fade in machine[0]]):
                self.assertEqual(behind_wait(machine, lives), plain.deed(machine, lives, "wait"))
                for cell in range(len(lives)):
                    self.assertEqual(behind_touch(machine, lives, cell), plain.deed(machine, lives, "touch", cell))
                    self.assertEqual(behind_set(machine, lives, cell), plain.deed(machine, lives, "set", cell))


class WrongValues(unittest.TestCase):
    def test_no_machine(self):
        for part, values in junk.BAD_MACHINES:
            for value in values:
                for call in (lambda: behind_touch(value, None, None), lambda: behind_set(value, (2,), 0),
                             lambda: behind_wait(value, (2,))):
                    with self.assertRaises(BadMachine, msg=repr(value)) as caught:
                        call()
                    self.assertEqual(caught.exception.part, part, repr(value))

    def test_no_lives(self):
        wrong = junk.VALUES + ((2, 4), (3, 3), (2,), (2, 3, 0), (2, -1), (True, 3), (2, None), [2, 3], ("2", 3), (2, (3,)))
        for value in wrong:
            for call in (lambda: behind_touch(junk.MACHINE, value, None), lambda: behind_set(junk.MACHINE, value, 9),
                         lambda: behind_wait(junk.MACHINE, value)):
                self.assertRaises(BadLives, call)

    def test_no_cell(self):
        for value in junk.VALUES + (2, -1, True, False, "0", (0,), None, [0]):
            self.assertRaises(BadCell, behind_touch, junk.MACHINE, (2, 3), value)
            self.assertRaises(BadCell, behind_set, junk.MACHINE, (0, 0), value)

    def test_arguments_are_not_changed(self):
        value = [[2], {0: [1]}]
        self.assertRaises(BadMachine, behind_wait, value, value)
        self.assertEqual(value, [[2], {0: [1]}])

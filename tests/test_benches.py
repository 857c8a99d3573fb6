import unittest

from fademill.benches import Mill
from fademill.errors import BadCell, BadMachine, BadNumber
from fademill.runs import run_fading, run_lasting
from tests import junk, plain

BAD_CELLS = (-1, 2, True, False, None, "0", "", (0,), [0], {}, {0: 0}, 10 ** 30, -10 ** 30)


class Mills(unittest.TestCase):
    def test_the_example(self):
        mill = Mill(((1, 3), (0, 1)))
        mill.write(1, 5)
        self.assertEqual([mill.read(0), mill.fresh, mill.held, mill.tick], [None, (0, 2), (None, 5), 2])

    def test_at_first(self):
        mill = Mill(((3, 2, 4), (0, 1, 0)))
        self.assertEqual((mill.tick, mill.fresh, mill.held), (0, (3, 2, 4), (0, 0, 0)))

    def test_each_deed_takes_a_tick(self):
        mill = Mill(((8,), (0,)))
        for at, deed in enumerate((lambda: mill.read(0), lambda: mill.write(0, 1), lambda: mill.touch(0), mill.wait), 1):
            deed()
            self.assertEqual(mill.tick, at)
        # To ask what is so takes none.
        self.assertEqual((mill.fresh, mill.held, mill.fresh, mill.tick), ((7,), (1,), (7,), 4))

    def test_what_is_not_asked_for_is_not_told(self):
        mill = Mill(((8,), (0,)))
        self.assertEqual((mill.write(0, 5), mill.touch(0), mill.wait()), (None, None, None))

    def test_a_read_touches_its_row(self):
        mill = Mill(((3, 2, 4), (0, 1, 0)))
        mill.wait()
        self.assertEqual(mill.fresh, (2, 1, 3))
        self.assertEqual(mill.read(2), 0)
        self.assertEqual(mill.fresh, (3, 0, 4))
        self.assertEqual(mill.held, (0, None, 0))

    def test_lost_and_set_again(self):
        mill = Mill(((2, 8), (0, 0)))
        mill.write(0, 7)
        mill.wait()
        self.assertEqual((mill.fresh, mill.held), ((1, 7), (7, 0)))
        mill.wait()
        self.assertEqual((mill.fresh, mill.held), ((0, 6), (None, 0)))
        # A touch of its row finds it no more, even by itself, but the other cell is made fresh.
        self.assertIsNone(mill.read(0))
        self.assertEqual((mill.fresh, mill.held), ((0, 8), (None, 0)))
        mill.touch(0)
        mill.touch(1)
        self.assertEqual((mill.fresh, mill.held), ((0, 8), (None, 0)))
        mill.write(0, -4)
        self.assertEqual((mill.fresh, mill.held), ((2, 8), (-4, 0)))
        self.assertEqual(mill.read(0), -4)

    def test_a_touch_in_time_keeps(self):
        mill = Mill(((1, 1), (0, 1)))
        mill.write(0, 9)
        for _ in range(20):
            mill.touch(0)
        self.assertEqual((mill.read(0), mill.held, mill.tick), (9, (9, None), 22))

    def test_any_integer_can_be_written(self):
        mill = Mill(((2, 2), (0, 1)))
        for value in (0, -1, 10 ** 6 + 1, -10 ** 30, 10 ** 5000):
            mill.write(1, value)
            self.assertEqual(mill.held[1], value)

    def test_two_do_not_disturb_each_other(self):
        machine = ((2, 3), (0, 1))
        one, other = Mill(machine), Mill(machine)
        one.write(0, 5)
        self.assertEqual((other.tick, other.held, other.fresh), (0, (0, 0), (2, 3)))
        self.assertEqual(machine, ((2, 3), (0, 1)))

    def test_what_was_told_does_not_change(self):
        mill = Mill(((2, 3), (0, 1)))
        held, fresh = mill.held, mill.fresh
        mill.write(0, 5)
        mill.wait()
        self.assertEqual((held, fresh), ((0, 0), (2, 3)))

    def test_wrong_values(self):
        junk.refuses_machines(self, Mill)
        mill = Mill(((2, 3), (0, 1)))
        for cell in BAD_CELLS:
            self.assertRaises(BadCell, mill.read, cell)
            self.assertRaises(BadCell, mill.touch, cell)
            self.assertRaises(BadCell, mill.write, cell, 5)
            # The error of the cell comes first.
            self.assertRaises(BadCell, mill.write, cell, None)
        for value in (True, False, None, "5", "", (5,), [5], {}, {5: 5}):
            self.assertRaises(BadNumber, mill.write, 0, value)
        # What was refused took no tick.
        self.assertEqual((mill.tick, mill.fresh, mill.held), (0, (2, 3), (0, 0)))
        self.assertRaises(BadMachine, Mill, ((2,), (1,)))


class AgainstTheWords(unittest.TestCase):
    def test_deeds_in_any_order(self):
        chance = plain.chance_of(140)
        lost = 0
        for _ in range(300):
            machine = plain.some_machine(chance, 4, 5)
            cells = len(machine[0])
            mill = Mill(machine)
            lives, held = machine[0], [0] * cells
            for tick in range(1, 30):
                word, cell = chance.choice(("get", "set", "touch", "wait")), chance.randrange(cells)
                if word == "get":
                    self.assertEqual(mill.read(cell), held[cell] if lives[cell] else None)
                    lost += lives[cell] == 0
                elif word == "set":
                    mill.write(cell, tick)
                    held[cell] = tick
                elif word == "touch":
                    mill.touch(cell)
                else:
                    mill.wait()
                lives = plain.deed(machine, lives, word, None if word == "wait" else cell)
                told = tuple(value if life else None for value, life in zip(held, lives))
                self.assertEqual((mill.tick, mill.fresh, mill.held), (tick, lives, told))
        self.assertGreater(lost, 50)

    def test_programs_done_by_hand(self):
        chance = plain.chance_of(141)
        words = {}
        for _ in range(400):
            machine = plain.some_machine(chance, 3, 4)
            program = plain.some_program(chance, len(machine[0]), 8, ("get", "set", "put", "say"))
            mill, hand, said, word = Mill(machine), 0, [], "stopped"
            for line in program:
                if line[0] == "get":
                    hand = mill.read(line[1])
                elif line[0] == "set":
                    mill.write(line[1], hand)
                else:
                    mill.wait()
                if hand is None:
                    word = "lost"
                    break
                if line[0] == "put":
                    hand = line[1]
                elif line[0] == "say":
                    said.append(hand)
            self.assertEqual(run_fading(machine, program, (), 99), (tuple(said), word, mill.tick - (word == "lost")))
            if word == "stopped":
                self.assertEqual(run_lasting(len(machine[0]), program, (), 99), (tuple(said), word, mill.tick))
            words[word] = words.get(word, 0) + 1
        self.assertGreater(min(words["lost"], words["stopped"]), 50)

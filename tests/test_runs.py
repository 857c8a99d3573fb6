import unittest

from fademill.errors import BadInputs, BadMachine, BadNumber, BadProgram
from fademill.runs import run_fading, run_lasting
from tests import junk, plain

ECHO = (("ask",), ("set", 0), ("say",), ("get", 0), ("say",))
LOOP = (("say",), ("go", 0))


class Lasting(unittest.TestCase):
    def test_the_example(self):
        self.assertEqual(run_lasting(1, ECHO, (7,), 9), ((7, 7), "stopped", 5))

    def test_each_instruction(self):
        program = (("put", 5), ("set", 0), ("put", -2), ("set", 1), ("get", 0), ("say",), ("plus", 1), ("say",),
                   ("minus", 0), ("say",), ("zero", 13), ("put", 0), ("zero", 14), ("say",), ("stop",), ("say",))
        self.assertEqual(run_lasting(2, program, (), 99), ((5, 3, -2), "stopped", 13))

    def test_inputs_then_zeros(self):
        program = (("ask",), ("say",), ("ask",), ("say",), ("ask",), ("say",))
        self.assertEqual(run_lasting(1, program, (8, -9), 99), ((8, -9, 0), "stopped", 6))
        self.assertEqual(run_lasting(1, program, (1, 2, 3, 4), 99), ((1, 2, 3), "stopped", 6))

    def test_all_is_zero_at_first(self):
        self.assertEqual(run_lasting(4, (("say",), ("get", 3), ("say",)), (), 9), ((0, 0), "stopped", 3))

    def test_for_at_most_so_many_ticks(self):
        self.assertEqual(run_lasting(1, ECHO, (7,), 4), ((7,), "running", 4))
        self.assertEqual(run_lasting(1, ECHO, (7,), 5), ((7, 7), "stopped", 5))
        self.assertEqual(run_lasting(1, ECHO, (7,), 0), ((), "running", 0))

    def test_gos_and_stops_take_no_tick(self):
        self.assertEqual(run_lasting(1, (("stop",),), (), 0), ((), "stopped", 0))
        self.assertEqual(run_lasting(1, (("go", 1), ("go", 2), ("say",), ("go", 4)), (), 1), ((0,), "stopped", 1))
        self.assertEqual(run_lasting(1, (("say",), ("go", 1)), (), 9), ((0,), "stopped", 1))
        self.assertEqual(run_lasting(1, (("go", 1), ("go", 0)), (), 20000), ((), "stopped", 0))

    def test_runs_of_20000_ticks(self):
        self.assertEqual(run_lasting(1, LOOP, (), 20000), ((0,) * 20000, "running", 20000))
        double = (("put", 1), ("set", 0), ("get", 0), ("plus", 0), ("set", 0), ("go", 2))
        said, word, ticks = run_lasting(1, double, (), 20000)
        self.assertEqual((said, word, ticks), ((), "running", 20000))
        grown = (("put", 1), ("set", 0)) + (("plus", 0), ("set", 0)) * 2 + (("zero", 0), ("say",), ("go", 2))
        said = run_lasting(1, grown, (), 12000)[0]
        self.assertEqual(said, tuple(4 ** (at + 1) for at in range(len(said))))
        self.assertEqual(len(said), 1999)

    def test_fifty_inputs(self):
        program = (("ask",), ("say",), ("go", 0))
        inputs = (1000000, -1000000) * 25
        self.assertEqual(run_lasting(1, program, inputs, 102), (inputs + (0,), "running", 102))

    def test_against_the_words(self):
        chance = plain.chance_of(4)
        for _ in range(1500):
            cells = chance.randint(1, 4)
            program = plain.some_program(chance, cells, chance.choice((5, 20)))
            inputs = tuple(chance.randint(-1, 1) for _ in range(chance.randint(0, 5)))
            most = chance.choice((0, 3, 20, 40))
            self.assertEqual(run_lasting(cells, program, inputs, most), plain.run(cells, None, program, inputs, most))


class Fading(unittest.TestCase):
    def test_the_example(self):
        self.assertEqual(run_fading(((2,), (0,)), ECHO, (7,), 9), ((7, 7), "stopped", 5))
        self.assertEqual(run_fading(((1,), (0,)), ECHO, (7,), 9), ((7,), "lost", 3))

    def test_the_tick_of_a_loss_is_not_counted(self):
        for word in ("get", "plus", "minus"):
            program = (("say",), (word, 0))
            self.assertEqual(run_fading(((1,), (0,)), program, (), 2), ((0,), "lost", 1))
            self.assertEqual(run_fading(((1,), (0,)), program, (), 1), ((0,), "running", 1))

    def test_for_at_most_so_many_ticks(self):
        self.assertEqual(run_fading(((1,), (0,)), (("touch", 0), ("say",)), (), 0), ((), "running", 0))
        self.assertEqual(run_fading(((1,), (0,)), (("touch", 0), ("say",)), (), 1), ((), "running", 1))
        self.assertEqual(run_fading(((1,), (0,)), (("touch", 0), ("say",)), (), 2), ((0,), "stopped", 2))
        self.assertEqual(run_fading(((1,), (0,)), (("go", 0),), (), 0), ((), "stopped", 0))

    def test_a_set_revives_and_a_touch_does_not(self):
        machine = ((1,), (0,))
        self.assertEqual(run_fading(machine, (("put", 4), ("set", 0), ("get", 0), ("say",)), (), 9),
                         ((4,), "stopped", 4))
        self.assertEqual(run_fading(machine, (("put", 4), ("touch", 0), ("get", 0), ("say",)), (), 9),
                         ((), "lost", 2))

    def test_touches_take_ticks_and_keep_rows(self):
        program = (("say",), ("touch", 1), ("say",), ("get", 0))
        self.assertEqual(run_fading(((2, 2), (0, 0)), program, (), 9), ((0, 0), "stopped", 4))
        self.assertEqual(run_fading(((2, 2), (0, 1)), program, (), 9), ((0, 0), "lost", 3))
        self.assertEqual(run_fading(((2, 1), (0, 0)), (("say",), ("touch", 1), ("get", 1)), (), 9), ((0,), "lost", 2))

    def test_a_long_kept_program(self):
        kept = (("touch", 0),) * 3999 + (("get", 0),)
        self.assertEqual(run_fading(((1,), (0,)), kept, (), 20000), ((), "stopped", 4000))
        self.assertEqual(run_fading(((1,), (0,)), kept[:-2] + (("say",), ("get", 0)), (), 20000), ((0,), "lost", 3999))
        self.assertEqual(run_fading(((1,), (0,)), kept[:-1] + (("go", 0),), (), 20000), ((), "running", 20000))

    def test_against_the_words(self):
        chance = plain.chance_of(5)
        words = []
        for _ in range(1500):
            machine = plain.some_machine(chance, 4, 5)
            cells = len(machine[0])
            kept = plain.with_touches(chance, cells, plain.some_program(chance, cells, chance.choice((5, 20))))
            inputs = tuple(chance.randint(-1, 1) for _ in range(chance.randint(0, 5)))
            answer = run_fading(machine, kept, inputs, 30)
            words.append(answer[1])
            self.assertEqual(answer, plain.run(cells, machine, kept, inputs, 30), (machine, kept))
        self.assertEqual(set(words), {"stopped", "running", "lost"})


class WrongValues(unittest.TestCase):
    def test_leftmost_first(self):
        self.assertRaises(BadNumber, run_lasting, 0, None, None, None)
        self.assertRaises(BadProgram, run_lasting, 1, None, None, None)
        self.assertRaises(BadInputs, run_lasting, 1, LOOP, None, None)
        self.assertRaises(BadNumber, run_lasting, 1, LOOP, (), None)
        self.assertRaises(BadMachine, run_fading, None, None, None, None)
        self.assertRaises(BadProgram, run_fading, junk.MACHINE, None, None, None)
        self.assertRaises(BadInputs, run_fading, junk.MACHINE, LOOP, None, None)
        self.assertRaises(BadNumber, run_fading, junk.MACHINE, LOOP, (), None)

    def test_no_number(self):
        for value in junk.VALUES + (20001, True, "5", (5,)):
            self.assertRaises(BadNumber, run_lasting, 1, LOOP, (), value)
            self.assertRaises(BadNumber, run_fading, junk.MACHINE, LOOP, (), value)
        for value in junk.VALUES + (0, 5):
            self.assertRaises(BadNumber, run_lasting, value, LOOP, (), 1)

    def test_no_inputs(self):
        wrong = tuple(value for value in junk.VALUES if value not in ((), (1, 2, 3)))
        for value in wrong + ((0,) * 51, (1000001,), (-1000001,), (True,), (1, None), [1], ("1",), ((1,),), 1, "1"):
            self.assertRaises(BadInputs, run_lasting, 1, LOOP, value, 1)
            self.assertRaises(BadInputs, run_fading, junk.MACHINE, LOOP, value, 1)

    def test_no_program(self):
        for value in junk.VALUES:
            self.assertRaises(BadProgram, run_lasting, 2, value, (), 1)
            self.assertRaises(BadProgram, run_fading, junk.MACHINE, value, (), 1)
        for line in junk.BAD_LINES:
            for call, first in ((run_lasting, 2), (run_fading, junk.MACHINE)):
                with self.assertRaises(BadProgram) as caught:
                    call(first, (("say",), line, ("ask",)), (), 1)
                self.assertEqual(caught.exception.index, 1)
        self.assertRaises(BadProgram, run_lasting, 2, (("touch", 0),), (), 1)
        self.assertRaises(BadProgram, run_fading, junk.MACHINE, (("touch", 0),) * 4001, (), 1)
        self.assertRaises(BadProgram, run_lasting, 1, (("get", 1),), (), 1)

    def test_no_machine(self):
        for part, values in junk.BAD_MACHINES:
            for value in values:
                with self.assertRaises(BadMachine) as caught:
                    run_fading(value, LOOP, (), 1)
                self.assertEqual(caught.exception.part, part)

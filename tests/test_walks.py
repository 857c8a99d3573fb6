import unittest

from fademill.errors import BadMachine, BadProgram
from fademill.runs import run_fading, run_lasting
from fademill.walks import carries, fault
from tests import junk, plain

ONE = ((2,), (0,))
LONG = ((8,), (0,))


class Faults(unittest.TestCase):
    def test_the_example(self):
        program = (("say",), ("say",), ("get", 0))
        self.assertEqual(fault(ONE, program, program), ("lost", (0, 1, 2)))
        kept = (("say",), ("touch", 0), ("say",), ("get", 0))
        self.assertIs(carries(ONE, program, kept), True)
        self.assertIsNone(fault(ONE, program, kept))

    def test_unlike_at_once(self):
        self.assertEqual(fault(ONE, (("say",),), (("ask",),)), ("unlike", (0,)))
        self.assertEqual(fault(ONE, (("put", 1),), (("put", 2),)), ("unlike", (0,)))
        self.assertEqual(fault(((2, 2), (0, 1)), (("get", 0),), (("get", 1),)), ("unlike", (0,)))
        self.assertIs(carries(ONE, (("say",),), (("ask",),)), False)

    def test_the_end_against_an_instruction(self):
        self.assertEqual(fault(ONE, (("say",),), (("say",), ("say",))), ("unlike", (0, -1)))
        self.assertEqual(fault(ONE, (("say",), ("say",)), (("say",),)), ("unlike", (0, 1)))
        self.assertEqual(fault(ONE, (("stop",),), (("say",),)), ("unlike", (-1,)))
        self.assertEqual(fault(ONE, (("say",),), (("stop",),)), ("unlike", (0,)))

    def test_ends_of_all_kinds_are_alike(self):
        for program in ((("stop",),), (("go", 0),), (("go", 1),)):
            for kept in ((("stop",),), (("go", 1), ("go", 0)), (("touch", 0),), (("touch", 0), ("touch", 0), ("stop",))):
                self.assertIsNone(fault(ONE, program, kept))

    def test_touches_that_never_end(self):
        self.assertEqual(fault(ONE, (("say",),), (("touch", 0), ("go", 0))), ("unlike", (0,)))
        self.assertEqual(fault(ONE, (("stop",),), (("touch", 0), ("go", 0))), ("unlike", (-1,)))
        kept = (("say",), ("touch", 0), ("go", 3), ("touch", 0), ("go", 1))
        self.assertEqual(fault(ONE, (("say",), ("say",)), kept), ("unlike", (0, 1)))

    def test_gos_are_passed_over_in_both(self):
        program = (("go", 2), ("stop",), ("say",), ("go", 1))
        self.assertIsNone(fault(ONE, program, (("go", 1), ("touch", 0), ("go", 3), ("say",))))
        self.assertEqual(fault(ONE, program, (("touch", 0), ("say",), ("say",))), ("unlike", (2, -1)))

    def test_a_zero_goes_the_same_way_in_both(self):
        program = (("zero", 2), ("say",), ("ask",))
        self.assertIsNone(fault(ONE, program, (("zero", 3), ("say",), ("go", 3), ("ask",))))
        self.assertEqual(fault(ONE, program, (("zero", 1), ("say",), ("ask",))), ("unlike", (0, 2)))
        self.assertEqual(fault(ONE, program, (("zero", 2), ("ask",), ("ask",))), ("unlike", (0, 1)))

    def test_for_ever_without_a_fault(self):
        self.assertIsNone(fault(ONE, (("get", 0), ("say",), ("go", 0)), (("get", 0), ("say",), ("go", 0))))
        self.assertIsNone(fault(ONE, (("zero", 0),), (("zero", 2), ("stop",), ("touch", 0), ("go", 0))))

    def test_a_loss_only_when_a_circle_is_gone_round_often(self):
        program = (("zero", 0), ("get", 0))
        self.assertEqual(fault(LONG, program, program), ("lost", (0,) * 8 + (1,)))
        self.assertIsNone(fault(LONG, program, (("touch", 0), ("zero", 0), ("get", 0))))

    def test_the_shortest_way_then_the_least(self):
        program = (("zero", 3), ("ask",), ("get", 0), ("say",), ("get", 0))
        one = ((1,), (0,))
        self.assertEqual(fault(one, program, program), ("lost", (0, 1, 2)))
        longer = (("zero", 4), ("ask",), ("ask",), ("get", 0), ("get", 0))
        self.assertEqual(fault(one, longer, longer), ("lost", (0, 4)))

    def test_the_end_comes_before_all_instructions(self):
        program = (("zero", 2), ("say",))
        self.assertEqual(fault(ONE, program, (("zero", 2), ("ask",), ("say",))), ("unlike", (0, -1)))

    def test_the_least_word_if_one_way_goes_wrong_twice(self):
        program = (("zero", 1), ("get", 0))
        kept = (("zero", 3), ("say",), ("stop",), ("get", 0))
        self.assertEqual(fault(((1,), (0,)), program, kept), ("lost", (0, 1)))
        self.assertEqual(fault(ONE, program, kept), ("unlike", (0, 1)))
        swapped = (("zero", 3), ("get", 0), ("stop",), ("say",))
        self.assertEqual(fault(((1,), (0,)), program, swapped), ("lost", (0, 1)))

    def test_an_instruction_may_stand_often(self):
        kept = ((("touch", 0), ("say",)) * 1999) + (("touch", 0), ("go", 0))
        self.assertEqual(len(kept), 4000)
        self.assertIsNone(fault(((1,), (0,)), (("say",), ("go", 0)), kept))
        self.assertEqual(fault(((1,), (0,)), (("say",), ("go", 0)), kept[:-1] + (("stop",),)), ("unlike", (0,) * 2000))

    def test_losses_of_rows(self):
        program = (("say",), ("get", 0), ("get", 1))
        self.assertIsNone(fault(((2, 2), (0, 0)), program, program))
        self.assertEqual(fault(((2, 2), (0, 1)), program, program), ("lost", (0, 1, 2)))
        self.assertEqual(fault(((3, 1), (0, 0)), program, program), ("lost", (0, 1, 2)))


class AgainstTheWords(unittest.TestCase):
    def test_faults(self):
        chance = plain.chance_of(6)
        words = []
        for _ in range(1500):
            machine = plain.some_machine(chance, 3, 4)
            cells = len(machine[0])
            program = plain.some_program(chance, cells, chance.choice((3, 5, 8)))
            kept = plain.with_touches(chance, cells, program, chance.choice((0.1, 0.4)))
            if chance.random() < 0.4:
                lines = list(kept)
                lines[chance.randrange(len(kept))] = (chance.choice(("zero", "go")), chance.randint(0, len(kept)))
                kept = tuple(lines)
            answer = fault(machine, program, kept)
            words.append(answer and answer[0])
            self.assertEqual(answer, plain.fault(machine, program, kept), (machine, program, kept))
            self.assertIs(carries(machine, program, kept), answer is None)
        for word in (None, "lost", "unlike"):
            self.assertGreater(words.count(word), 100)

    def test_what_carries_says_the_same(self):
        chance = plain.chance_of(7)
        carried = 0
        for _ in range(800):
            machine = plain.some_machine(chance, 3, 4)
            cells = len(machine[0])
            program = plain.some_program(chance, cells, 8)
            kept = plain.with_touches(chance, cells, program)
            if carries(machine, program, kept):
                carried += 1
                inputs = tuple(chance.randint(-1, 1) for _ in range(6))
                said, word, _ = run_lasting(cells, program, inputs, 30)
                kept_said, kept_word, _ = run_fading(machine, kept, inputs, 20000)
                self.assertNotEqual(kept_word, "lost")
                self.assertEqual(kept_said[:len(said)], said)
                if word == "stopped":
                    self.assertEqual((kept_said, kept_word), (said, word))
        self.assertGreater(carried, 200)


class WrongValues(unittest.TestCase):
    def test_no_machine(self):
        for part, values in junk.BAD_MACHINES:
            for value in values:
                for call in (fault, carries):
                    with self.assertRaises(BadMachine) as caught:
                        call(value, None, None)
                    self.assertEqual(caught.exception.part, part)

    def test_no_program(self):
        for call in (fault, carries):
            for value in junk.VALUES:
                self.assertRaises(BadProgram, call, junk.MACHINE, value, None)
                self.assertRaises(BadProgram, call, junk.MACHINE, junk.PROGRAM, value)
            for line in junk.BAD_LINES:
                with self.assertRaises(BadProgram) as caught:
                    call(junk.MACHINE, (("say",), line, ("ask",)), (line, line))
                self.assertEqual(caught.exception.index, 1)
                with self.assertRaises(BadProgram) as caught:
                    call(junk.MACHINE, junk.PROGRAM, (("touch", 0), ("touch", 1), line))
                self.assertEqual(caught.exception.index, 2)

    def test_a_touch_in_the_program(self):
        with self.assertRaises(BadProgram) as caught:
            fault(junk.MACHINE, (("touch", 0),), (("touch", 5),))
        self.assertEqual(caught.exception.index, 0)
        with self.assertRaises(BadProgram) as caught:
            fault(junk.MACHINE, (("say",),) * 21, (("say",),))
        self.assertIsNone(caught.exception.index)

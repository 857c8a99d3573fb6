import unittest

from fademill.errors import BadNumber, BadProgram
from fademill.programs import may_go_on, reached
from fademill.runs import run_fading
from fademill.walks import carries
from tests import junk, plain


class Reached(unittest.TestCase):
    def test_each_zero_goes_either_way(self):
        self.assertEqual(reached(1, (("zero", 2), ("say",), ("ask",))), (0, 1, 2))
        self.assertEqual(reached(1, (("put", 0), ("zero", 3), ("get", 0), ("say",))), (0, 1, 2, 3))

    def test_gos_and_stops_are_passed_over(self):
        self.assertEqual(reached(1, (("go", 2), ("say",), ("ask",), ("stop",), ("say",))), (2,))
        self.assertEqual(reached(2, (("go", 1), ("go", 3), ("get", 0), ("zero", 0), ("get", 1))), (3, 4))

    def test_the_end_is_no_instruction(self):
        self.assertEqual(reached(1, (("stop",),)), ())
        self.assertEqual(reached(1, (("go", 1),)), ())
        self.assertEqual(reached(1, (("say",),)), (0,))

    def test_gos_that_come_to_nothing_are_an_end(self):
        self.assertEqual(reached(1, (("go", 0), ("say",))), ())
        self.assertEqual(reached(1, (("say",), ("go", 2), ("go", 1), ("say",))), (0,))

    def test_against_the_words(self):
        chance = plain.chance_of(1)
        for _ in range(1500):
            program = plain.some_program(chance, 2, chance.choice((3, 8, 20)))
            self.assertEqual(reached(2, program), plain.reached(program), program)


class MayGoOn(unittest.TestCase):
    def test_plain_ones(self):
        self.assertFalse(may_go_on(1, (("say",), ("get", 0))))
        self.assertTrue(may_go_on(1, (("say",), ("go", 0))))
        self.assertTrue(may_go_on(1, (("zero", 0),)))
        self.assertTrue(may_go_on(1, (("put", 1), ("zero", 0))))
        self.assertFalse(may_go_on(1, (("zero", 1),)))

    def test_gos_alone_are_an_end(self):
        self.assertFalse(may_go_on(1, (("go", 0),)))
        self.assertFalse(may_go_on(1, (("say",), ("go", 2), ("go", 1))))
        self.assertFalse(may_go_on(1, (("stop",), ("say",), ("go", 1))))

    def test_against_the_words(self):
        chance = plain.chance_of(2)
        answers = []
        for _ in range(1500):
            program = plain.some_program(chance, 2, chance.choice((3, 8, 20)))
            answers.append(may_go_on(2, program))
            self.assertIs(answers[-1], plain.may_go_on(program), program)
        self.assertTrue(100 < sum(answers) < 1400)


class WrongValues(unittest.TestCase):
    def index_of(self, call, *passed):
        with self.assertRaises(BadProgram, msg=repr(passed)) as caught:
            call(*passed)
        return caught.exception.index

    def test_no_number_of_cells(self):
        for value in junk.VALUES + (0, 5, True, "1", (1,)):
            self.assertRaises(BadNumber, reached, value, junk.PROGRAM)
            self.assertRaises(BadNumber, may_go_on, value, None)

    def test_no_instruction(self):
        for line in junk.BAD_LINES:
            for call in (reached, may_go_on):
                self.assertEqual(self.index_of(call, 2, (("say",), line, ("sing",))), 1, line)
                self.assertEqual(self.index_of(call, 2, (line, ("say",), ("ask",))), 0, line)

    def test_a_touch_is_one_of_kept_programs_only(self):
        self.assertEqual(self.index_of(reached, 2, (("say",), ("touch", 0))), 1)
        self.assertEqual(run_fading(junk.MACHINE, (("say",), ("touch", 0)), (), 5), ((0,), "stopped", 2))

    def test_no_tuple_of_so_many(self):
        for value in (None, True, 7, "say", [("say",)], {}, {0: ("say",)}, (), (("say",),) * 21, (None,) * 21):
            self.assertIsNone(self.index_of(reached, 2, value))
            self.assertIsNone(self.index_of(may_go_on, 2, value))

    def test_the_longest(self):
        program = (("say",),) * 20
        self.assertEqual(reached(1, program), tuple(range(20)))
        self.assertEqual(self.index_of(reached, 1, program[:-1] + (("go", 21),)), 19)
        self.assertEqual(reached(1, (("zero", 20),) + program[1:]), tuple(range(20)))

    def test_limits_of_numbers(self):
        self.assertEqual(reached(4, (("put", 1000000), ("put", -1000000), ("get", 3), ("go", 4))), (0, 1, 2))
        self.assertEqual(self.index_of(reached, 3, (("get", 2), ("get", 3))), 1)

    def test_the_longest_kept_program(self):
        kept = (("touch", 0),) * 3998 + (("say",), ("get", 1))
        self.assertFalse(carries(junk.MACHINE, junk.PROGRAM, kept))
        self.assertTrue(carries(junk.MACHINE, (("say",), ("say",)), kept[:-1] + (("say",),)))
        self.assertIsNone(self.index_of(carries, junk.MACHINE, junk.PROGRAM, kept + (("say",),)))
        self.assertIsNone(self.index_of(carries, junk.MACHINE, junk.PROGRAM, ()))
        self.assertEqual(self.index_of(carries, junk.MACHINE, junk.PROGRAM, kept[:-1] + (("go", 4001),)), 3999)
        circle = tuple(("go", index - 1 if index else 3999) for index in range(4000))
        self.assertTrue(carries(junk.MACHINE, (("stop",),), circle))

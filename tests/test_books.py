import unittest

from fademill.books import can_be_kept, moments, rank
from fademill.errors import BadMachine, BadProgram, TooMany
from fademill.runs import run_fading, run_lasting
from fademill.walks import carries
from tests import junk, plain

TWO = (("get", 0), ("get", 1), ("go", 0))
# A machine and a program of which just 20000 moments count.
WIDE = ((7, 7, 5, 8), (0, 1, 2, 3))
MANY = (("zero", 13), ("get", 2), ("zero", 3), ("say",), ("zero", 6), ("get", 0), ("zero", 3), ("zero", 1), ("say",),
        ("get", 0), ("get", 1), ("set", 1), ("get", 0), ("get", 2), ("zero", 13), ("get", 3))


class Books(unittest.TestCase):
    def test_the_example(self):
        self.assertIs(can_be_kept(((2, 2), (0, 1)), TWO), True)
        self.assertIs(can_be_kept(((1, 2), (0, 1)), TWO), False)
        self.assertEqual(rank(((1, 2), (0, 1)), TWO), 2)
        self.assertIsNone(rank(((2, 2), (0, 1)), TWO))

    def test_the_least_rank_of_a_beginning(self):
        # Only what is lost already has it, and nothing is lost at the beginning.
        machine = ((1, 1), (0, 1))
        self.assertEqual(rank(machine, (("get", 0), ("get", 1))), 1)
        self.assertEqual(rank(machine, (("say",), ("get", 1))), 1)
        self.assertEqual(moments(((1,), (0,)), (("say",), ("get", 0))), (2, 2))

    def test_ranks_tell_of_instructions(self):
        # The value is lost at the third instruction at the latest.
        program = (("say",), ("say",), ("get", 0))
        self.assertEqual(rank(((1,), (0,)), program), 2)
        self.assertEqual(rank(((1, 8), (0, 0)), program), 2)
        longer = (("get", 0),) * 4 + program
        self.assertEqual(rank(((1,), (0,)), longer), 6)
        self.assertIsNone(rank(((2,), (0,)), longer))

    def test_touches_do_not_help_where_rows_are_in_each_others_way(self):
        self.assertTrue(can_be_kept(((2, 2), (0, 0)), (("say",), ("get", 0), ("get", 1))))
        self.assertFalse(can_be_kept(((2, 2), (0, 1)), (("say",), ("get", 0), ("get", 1))))
        self.assertFalse(can_be_kept(((8, 1), (0, 1)), (("zero", 0), ("get", 1))))

    def test_one_way_of_a_zero_dooms(self):
        program = (("zero", 3), ("get", 0), ("stop",), ("say",), ("get", 0))
        self.assertFalse(can_be_kept(((1,), (0,)), program))
        self.assertTrue(can_be_kept(((2,), (0,)), program))

    def test_a_program_that_begins_at_the_end(self):
        for program in ((("stop",),), (("go", 0), ("get", 0)), (("go", 1),)):
            machine = ((1,), (0,))
            self.assertIs(can_be_kept(machine, program), True)
            self.assertIsNone(rank(machine, program))
            self.assertEqual(moments(machine, program), (0, 0))

    def test_lives_that_are_not_needed_are_told_as_zero(self):
        self.assertEqual(moments(((8, 8), (0, 1)), (("say",), ("ask",), ("set", 0))), (3, 0))
        # Of get 0 the lives 3 behind touches, and of what comes behind it only 0.
        self.assertEqual(moments(((3,), (0,)), (("get", 0), ("say",))), (2, 0))
        self.assertEqual(moments(((3,), (0,)), (("say",), ("get", 0))), (3, 0))

    def test_lost_cells_count_too(self):
        # Touches of row 1 lose cell 0: its lives come down to 0.
        self.assertEqual(moments(((2, 1), (0, 1)), (("get", 0),)), (3, 1))

    def test_just_so_many(self):
        self.assertEqual(moments(WIDE, MANY)[0], 20000)
        self.assertIs(can_be_kept(WIDE, MANY), rank(WIDE, MANY) is None)

    def test_too_many(self):
        for call in (moments, rank, can_be_kept):
            for program in (MANY + (("say",),), (("say",),) * 16 + tuple(("get", cell) for cell in range(4))):
                with self.assertRaises(TooMany) as caught:
                    call(((8, 8, 8, 8), (0, 1, 2, 3)) if program[0] == ("say",) else WIDE, program)
                self.assertEqual(caught.exception.most, 20000)

    def test_a_program_of_twenty(self):
        program = (("say",), ("get", 0)) * 9 + (("zero", 20), ("go", 0))
        self.assertEqual(moments(((3,), (0,)), program)[1], 0)
        self.assertTrue(can_be_kept(((2,), (0,)), program))
        self.assertEqual(rank(((1,), (0,)), program), 1)


class AgainstTheWords(unittest.TestCase):
    def test_ranks_and_numbers_of_moments(self):
        chance = plain.chance_of(8)
        seen = {}
        for _ in range(500):
            machine = plain.some_machine(chance, 3, 4)
            program = plain.some_program(chance, len(machine[0]), chance.choice((4, 8)))
            doomed, found = plain.ranks(machine, program)
            first = plain.beginning(machine, program)
            answer = rank(machine, program)
            seen[answer] = seen.get(answer, 0) + 1
            self.assertEqual(answer, doomed.get(first), (machine, program))
            self.assertEqual(moments(machine, program), (len(found), len(doomed)), (machine, program))
            self.assertIs(can_be_kept(machine, program), first not in doomed)
        self.assertGreater(seen[None], 50)
        self.assertGreater(len(seen), 5)

    def test_what_can_be_kept_is_carried(self):
        chance = plain.chance_of(9)
        written = 0
        for _ in range(250):
            machine = plain.some_machine(chance, 3, 4)
            program = plain.some_program(chance, len(machine[0]), 6)
            kept = plain.written_out(machine, program)
            self.assertIs(can_be_kept(machine, program), kept is not None)
            if kept is not None:
                written += 1
                self.assertTrue(carries(machine, program, kept), (machine, program))
                said = run_lasting(len(machine[0]), program, (1, 0, 1), 20)[0]
                self.assertEqual(run_fading(machine, kept, (1, 0, 1), 20000)[0][:len(said)], said)
        self.assertGreater(written, 50)

    def test_what_is_doomed_is_carried_by_none(self):
        chance = plain.chance_of(10)
        doomed = 0
        for _ in range(1500):
            machine = plain.some_machine(chance, 3, 4)
            cells = len(machine[0])
            program = plain.some_program(chance, cells, 6)
            kept = plain.with_touches(chance, cells, program)
            if not can_be_kept(machine, program):
                doomed += 1
                self.assertFalse(carries(machine, program, kept), (machine, program, kept))
        self.assertGreater(doomed, 100)


class WrongValues(unittest.TestCase):
    def test_no_machine(self):
        for part, values in junk.BAD_MACHINES:
            for value in values:
                for call in (rank, moments, can_be_kept):
                    with self.assertRaises(BadMachine) as caught:
                        call(value, None)
                    self.assertEqual(caught.exception.part, part)

    def test_no_program(self):
        for call in (rank, moments, can_be_kept):
            for value in junk.VALUES + ((("say",),) * 21, (("touch", 0),)):
                self.assertRaises(BadProgram, call, junk.MACHINE, value)
            for line in junk.BAD_LINES:
                with self.assertRaises(BadProgram) as caught:
                    call(junk.MACHINE, (("say",), ("ask",), line))
                self.assertEqual(caught.exception.index, 2)

    def test_equal_arguments_have_equal_answers(self):
        self.assertEqual([rank(((1, 2), (0, 1)), TWO) for _ in range(2)], [2, 2])
        self.assertEqual(len({moments(((3, 3), (0, 1)), TWO) for _ in range(3)}), 1)

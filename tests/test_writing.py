import unittest
from unittest import mock

from fademill import writing
from fademill.books import can_be_kept
from fademill.errors import NoWay, TooMany
from fademill.runs import run_fading, run_lasting
from fademill.walks import carries
from fademill.writing import kept
from tests import junk, plain


class Kept(unittest.TestCase):
    def test_the_example(self):
        self.assertRaises(NoWay, kept, ((1,), (0,)), (("say",), ("say",), ("get", 0)))

    def test_a_touch_is_put_in(self):
        machine, program = ((2,), (0,)), (("say",), ("say",), ("get", 0))
        written = kept(machine, program)
        self.assertIsInstance(written, tuple)
        self.assertEqual([line[0] for line in written if line[0] != "touch"], ["say", "say", "get", "stop"])
        self.assertEqual(written.count(("touch", 0)), 1)
        self.assertTrue(carries(machine, program, written))

    def test_no_touch_where_none_is_needed(self):
        for program in ((("get", 0), ("say",), ("get", 0)), (("say",), ("set", 0), ("get", 0), ("go", 0)), (("ask",),)):
            written = kept(((2,), (0,)), program)
            self.assertNotIn("touch", [line[0] for line in written])
            self.assertTrue(carries(((2,), (0,)), program, written))

    def test_it_goes_on_for_ever(self):
        machine, program = ((3, 4), (0, 1)), (("get", 0), ("zero", 3), ("get", 1), ("go", 0))
        written = kept(machine, program)
        self.assertTrue(carries(machine, program, written))
        self.assertEqual(run_fading(machine, written, (), 5000)[1:], ("running", 5000))

    def test_cells_that_share_a_row(self):
        machine, program = ((2, 2), (0, 0)), (("say",), ("get", 0), ("get", 1))
        self.assertTrue(carries(machine, program, kept(machine, program)))
        self.assertRaises(NoWay, kept, ((2, 2), (0, 1)), program)

    def test_a_program_that_begins_at_its_end(self):
        for program in ((("stop",),), (("go", 0), ("get", 0)), (("go", 1),), (("go", 2), ("get", 0), ("go", 0))):
            written = kept(((1,), (0,)), program)
            self.assertTrue(carries(((1,), (0,)), program, written))
            self.assertEqual(run_fading(((1,), (0,)), written, (), 9), ((), "stopped", 0))

    def test_gos_that_come_to_no_other_instruction(self):
        program = (("say",), ("zero", 4), ("go", 3), ("go", 2), ("get", 0))
        self.assertTrue(carries(((3,), (0,)), program, kept(((3,), (0,)), program)))

    def test_zeros_whose_ways_are_one(self):
        program = (("get", 0), ("zero", 2), ("get", 0), ("zero", 4))
        self.assertTrue(carries(((2,), (0,)), program, kept(((2,), (0,)), program)))

    def test_weaker_lives_have_one_line(self):
        # However cell 0 fares till instruction 6, what is done from there on is written once.
        program = (("zero", 2), ("say",), ("zero", 4), ("say",), ("zero", 6), ("say",), ("say",), ("get", 0))
        written = kept(((8,), (0,)), program)
        self.assertTrue(carries(((8,), (0,)), program, written))
        self.assertLessEqual(written.count(("get", 0)), 2)

    def test_arguments_that_are_equal(self):
        machine, program = ((3, 4, 3), (0, 1, 0)), (("get", 0), ("zero", 0), ("get", 1), ("plus", 2), ("go", 0))
        self.assertEqual(kept(machine, program), kept(machine, tuple(list(program))))

    def test_just_as_long_as_may_be(self):
        machine, program = ((2,), (0,)), (("say",), ("say",), ("get", 0))
        many = len(kept(machine, program))
        with mock.patch.object(writing, "MOST_KEPT", many):
            self.assertEqual(len(kept(machine, program)), many)
        with mock.patch.object(writing, "MOST_KEPT", many - 1):
            with self.assertRaises(TooMany) as caught:
                kept(machine, program)
        self.assertEqual(caught.exception.most, many - 1)
        self.assertEqual(writing.MOST_KEPT, 4000)

    def test_too_many_moments(self):
        with self.assertRaises(TooMany) as caught:
            kept(*junk.TOO_WIDE)
        self.assertEqual(caught.exception.most, 20000)

    def test_more_than_a_thousand_moments_will_do(self):
        for machine, program in (junk.FULL_ENDING, junk.FULL_ENDLESS):
            written = kept(machine, program + junk.ONE_MORE)
            self.assertTrue(carries(machine, program + junk.ONE_MORE, written))

    def test_wrong_values(self):
        junk.refuses_machines(self, lambda machine: kept(machine, None))
        junk.refuses_programs(self, lambda program: kept(junk.MACHINE, program))


class AgainstTheWords(unittest.TestCase):
    def test_it_carries_or_there_is_none(self):
        chance = plain.chance_of(20)
        counts = {True: 0, False: 0}
        for _ in range(400):
            machine = plain.some_machine(chance, 4, 4)
            program = plain.some_program(chance, len(machine[0]), chance.choice((5, 12)))
            able = plain.written_out(machine, program) is not None
            counts[able] += 1
            self.assertIs(can_be_kept(machine, program), able)
            if able:
                written = kept(machine, program)
                self.assertIsNone(plain.fault(machine, program, written), (machine, program, written))
                said = run_lasting(len(machine[0]), program, (0, 1, 0), 30)[0]
                self.assertEqual(run_fading(machine, written, (0, 1, 0), 20000)[0][:len(said)], said)
            else:
                self.assertRaises(NoWay, kept, machine, program)
        self.assertGreater(min(counts.values()), 50)

    def test_large_ones(self):
        chance = plain.chance_of(21)
        longest = 0
        for _ in range(60):
            machine = tuple(chance.randint(4, 8) for _ in range(4)), (0, 1, 2, 3)
            words = ("get", "plus", "minus", "set", "say", "zero", "zero", "go")
            program = plain.some_program(chance, 4, 18, words) + (("go", 0),)
            try:
                written = kept(machine, program)
            except (NoWay, TooMany):
                continue
            longest = max(longest, len(written))
            self.assertTrue(carries(machine, program, written), (machine, program))
        self.assertGreater(longest, 100)

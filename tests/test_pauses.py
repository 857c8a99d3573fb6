import unittest

from fademill.errors import BadNumber, BadProgram, NotCarried
from fademill.pauses import longest_pause, lost_by
from fademill.walks import carries
from fademill.writing import kept
from tests import junk, plain, plain_cells

FOUR = ((4,), (0,))
PROGRAM = (("say",), ("get", 0))


class Pauses(unittest.TestCase):
    def test_the_example(self):
        self.assertEqual(longest_pause(FOUR, PROGRAM, PROGRAM), 2)
        self.assertEqual(lost_by(FOUR, PROGRAM, PROGRAM, 3), (0, 1))

    def test_pauses_of_0_and_of_100_ticks(self):
        self.assertIsNone(lost_by(FOUR, PROGRAM, PROGRAM, 0))
        self.assertIsNone(lost_by(FOUR, PROGRAM, PROGRAM, 2))
        self.assertEqual(lost_by(FOUR, PROGRAM, PROGRAM, 100), (0, 1))
        self.assertIsNone(lost_by(FOUR, (("say",),), (("say",),), 100))

    def test_no_pause_can_be_had(self):
        machine = ((2,), (0,))
        self.assertEqual(longest_pause(machine, PROGRAM, PROGRAM), 0)
        self.assertEqual(lost_by(machine, PROGRAM, PROGRAM, 1), (0, 1))

    def test_the_longest_that_matters(self):
        machine = ((8,), (0,))
        program = (("get", 0),)
        self.assertEqual(longest_pause(machine, program, program), 7)
        self.assertIsNone(lost_by(machine, program, program, 7))
        self.assertEqual(lost_by(machine, program, program, 8), (0,))

    def test_any_pause_is_without_a_loss(self):
        for program in ((("say",), ("go", 0)), (("set", 0), ("say",)), (("stop",),), (("go", 0),), (("ask",), ("zero", 0))):
            self.assertIsNone(longest_pause(((1,), (0,)), program, program))
            for ticks in (0, 1, 8, 100):
                self.assertIsNone(lost_by(((1,), (0,)), program, program, ticks))

    def test_a_pause_ahead_of_a_touch(self):
        # A touch comes too late behind a pause: what is read was lost ahead of it.
        machine, program = ((2,), (0,)), (("say",), ("say",), ("get", 0))
        written = (("say",), ("touch", 0), ("say",), ("get", 0))
        self.assertEqual(lost_by(machine, program, written, 1), (0, 1, 2, 3))
        self.assertEqual(longest_pause(machine, program, written), 0)
        self.assertEqual(longest_pause(((3,), (0,)), program, written), 1)

    def test_once_and_no_more(self):
        # Two pauses of one tick would lose the cell.
        program = (("get", 0), ("say",), ("go", 0))
        self.assertEqual(longest_pause(((3,), (0,)), program, program), 1)
        self.assertIsNone(lost_by(((3,), (0,)), program, program, 1))

    def test_the_least_of_the_shortest_ways(self):
        # Either way of the zero comes to a read; the way that falls through has the lesser index.
        program = (("zero", 3), ("get", 0), ("stop",), ("get", 0))
        self.assertEqual(lost_by(((2,), (0,)), program, program, 1), (0, 1))
        program = (("zero", 4), ("say",), ("get", 0), ("stop",), ("get", 0))
        self.assertEqual(lost_by(((3,), (0,)), program, program, 2), (0, 4))
        self.assertEqual(lost_by(((3,), (0,)), program, program, 1), (0, 1, 2))

    def test_gos_are_passed_over(self):
        program = (("go", 2), ("say",), ("say",), ("go", 5), ("say",), ("get", 0))
        self.assertEqual(lost_by(((2,), (0,)), program, program, 1), (2, 5))

    def test_one_that_does_not_carry(self):
        for written in ((("say",),), (("say",), ("say",), ("get", 0)), (("get", 0), ("say",))):
            self.assertRaises(NotCarried, longest_pause, FOUR, PROGRAM, written)
            # The error of an argument comes ahead of that of one on its right.
            for ticks in (0, 100, 101, -1, None, True):
                self.assertRaises(NotCarried, lost_by, FOUR, PROGRAM, written, ticks)
        self.assertRaises(NotCarried, longest_pause, ((1,), (0,)), PROGRAM, PROGRAM)

    def test_wrong_values(self):
        for ticks in (-1, 101, True, False, None, "1", (1,), [], {}, 10 ** 20):
            self.assertRaises(BadNumber, lost_by, FOUR, PROGRAM, PROGRAM, ticks)
        junk.refuses_machines(self, lambda machine: lost_by(machine, None, None, None))
        junk.refuses_machines(self, lambda machine: longest_pause(machine, None, None))
        junk.refuses_programs(self, lambda program: lost_by(junk.MACHINE, program, None, None))
        junk.refuses_programs(self, lambda program: longest_pause(junk.MACHINE, program, None))
        junk.refuses_programs(self, lambda program: lost_by(junk.MACHINE, junk.PROGRAM, program, None))
        junk.refuses_programs(self, lambda program: longest_pause(junk.MACHINE, junk.PROGRAM, program))

    def test_a_touch_is_none_of_the_program(self):
        with self.assertRaises(BadProgram) as caught:
            lost_by(FOUR, (("say",), ("touch", 0)), PROGRAM, 0)
        self.assertEqual(caught.exception.index, 1)


class AgainstTheWords(unittest.TestCase):
    def test_ways_and_pauses(self):
        chance = plain.chance_of(70)
        seen = {}
        while len(seen) < 6 or sum(seen.values()) < 250:
            machine = plain.some_machine(chance, 3, 5)
            cells = len(machine[0])
            words = ("get", "plus", "set", "say", "zero", "zero", "go")
            program = plain.some_program(chance, cells, 7, words)
            written = plain.with_touches(chance, cells, program, 0.25)
            if plain.written_out(machine, program) is not None and chance.random() < 0.3:
                written = kept(machine, program)
            if not carries(machine, program, written):
                self.assertRaises(NotCarried, longest_pause, machine, program, written)
                continue
            most = longest_pause(machine, program, written)
            seen[most] = seen.get(most, 0) + 1
            self.assertEqual(most, plain_cells.longest_pause(machine, written), (machine, written))
            for ticks in (0, 1, 2, 3, 5, 100):
                self.assertEqual(lost_by(machine, program, written, ticks),
                                 plain_cells.lost_by(machine, written, ticks), (machine, written, ticks))

    def test_a_large_one(self):
        machine = ((6, 6, 7, 4), (0, 1, 2, 3))
        program = (("zero", 7), ("zero", 15), ("plus", 2), ("get", 1), ("zero", 7), ("zero", 11), ("plus", 1), ("zero", 14),
                   ("get", 1), ("zero", 4), ("plus", 3), ("get", 0), ("zero", 8), ("zero", 10), ("zero", 3), ("zero", 0),
                   ("zero", 9), ("say",), ("zero", 13), ("get", 1))
        written = kept(machine, program)
        most = longest_pause(machine, program, written)
        self.assertIsNone(lost_by(machine, program, written, most))
        way = lost_by(machine, program, written, most + 1)
        self.assertIn(written[way[-1]][0], plain.READS)

import unittest

from fademill.books import can_be_kept
from fademill.errors import BadNumber, BadProgram
from fademill.keepers import at_full_speed, keepers_needed
from fademill.shares import share
from tests import junk, plain, plain_hurries

ONE = ((1,), (0,))
RING = (("say",), ("say",), ("get", 0), ("go", 0))


def parted(*fades):
    """A machine each row of which is one cell."""
    return fades, tuple(range(len(fades)))


class Keepers(unittest.TestCase):
    def test_the_example(self):
        self.assertIs(at_full_speed(ONE, RING, 0), False)
        self.assertEqual(keepers_needed(ONE, RING), 1)

    def test_hands_from_none_to_four(self):
        machine = parted(1, 1, 1, 1)
        program = (("say",), ("get", 0), ("get", 1), ("get", 2), ("get", 3), ("go", 0))
        self.assertEqual([at_full_speed(machine, program, hands) for hands in range(5)], [False, False, False, False, True])
        self.assertEqual(keepers_needed(machine, program), 4)
        self.assertEqual([at_full_speed(parted(2, 2, 2, 2), program, hands) for hands in range(5)],
                         [False, False, True, True, True])
        self.assertEqual([keepers_needed(parted(*fades), program) for fades in ((4, 4, 4, 4), (8, 8, 8, 8), (2, 3, 1, 8))],
                         [1, 0, 2])

    def test_more_hands_than_rows(self):
        for hands in range(1, 5):
            self.assertIs(at_full_speed(ONE, RING, hands), True)
            self.assertIs(at_full_speed(((1, 1), (0, 0)), RING, hands), True)

    def test_programs_that_need_no_keeper(self):
        for program in ((("get", 0), ("go", 0)), (("say",), ("go", 0)), (("stop",),), (("go", 0),), (("say",),) * 20,
                        (("say",), ("set", 0), ("get", 0), ("go", 0)), (("get", 0), ("zero", 2))):
            self.assertEqual(keepers_needed(ONE, program), 0, program)
            self.assertIs(at_full_speed(ONE, program, 0), True)

    def test_a_keeper_for_each_row_will_always_do(self):
        # What is touched at each tick is never lost, so that there is no program for which none is told.
        chance = plain.chance_of(120)
        for _ in range(300):
            machine = plain.some_machine(chance, 4, 2)
            program = plain.some_program(chance, len(machine[0]), 12)
            rows = max(machine[1]) + 1
            self.assertIs(at_full_speed(machine, program, rows), True)
            self.assertLessEqual(keepers_needed(machine, program), rows)

    def test_a_read_that_comes_too_late(self):
        # What the instruction needs must be alive ahead of its tick: a keeper at this tick is too late.
        self.assertIs(at_full_speed(ONE, (("say",), ("get", 0)), 0), False)
        self.assertIs(at_full_speed(ONE, (("say",), ("get", 0)), 1), True)
        self.assertIs(at_full_speed(((2,), (0,)), (("say",), ("get", 0)), 0), True)

    def test_what_is_lost_is_not_touched_alive(self):
        # A lost cell of a row that is touched stays lost, and a set makes it fresh.
        machine = ((1, 1), (0, 0))
        self.assertEqual(keepers_needed(machine, (("say",), ("set", 0), ("get", 1))), 1)
        self.assertEqual(keepers_needed(machine, (("say",), ("set", 0), ("get", 0))), 0)
        self.assertEqual(keepers_needed(((2, 1), (0, 0)), (("say",), ("set", 0), ("get", 0), ("get", 1))), 1)

    def test_the_programs_own_touches_help(self):
        # An instruction touches its row; the cells that share it need no keeper.
        program = (("get", 0), ("plus", 1), ("minus", 2), ("go", 0))
        self.assertEqual(keepers_needed(parted(1, 1, 1), program), 2)
        self.assertEqual(keepers_needed(((1, 1, 1), (0, 0, 0)), program), 0)
        self.assertEqual(keepers_needed(parted(3, 3, 3), program), 0)
        self.assertEqual(keepers_needed(parted(2, 3, 3), program), 1)
        self.assertEqual(keepers_needed(((3, 2, 3), (0, 1, 1)), program), 0)

    def test_one_keeper_for_many_rows(self):
        program = (("say",), ("zero", 0), ("get", 0), ("get", 1), ("get", 2), ("get", 3), ("go", 0))
        for fades, told in (((4, 4, 4, 4), 1), ((2, 4, 8, 8), 1), ((3, 3, 3, 3), 2), ((2, 4, 8, 7), 2), ((2, 2, 2, 2), 2),
                            ((1, 2, 2, 2), 3), ((1, 1, 2, 2), 3), ((1, 1, 1, 2), 4), ((1, 8, 8, 8), 2)):
            self.assertEqual(keepers_needed(parted(*fades), program), told, fades)

    def test_keepers_know_which_way_zeros_went(self):
        # Behind the zero but one of the cells is read, and the keeper sees which: no tick is there to be ready for both.
        program = (("zero", 4), ("say",), ("get", 0), ("stop",), ("say",), ("get", 1))
        self.assertEqual(keepers_needed(parted(2, 2), program), 1)
        # At the tick of the zero itself they don't know yet.
        program = (("zero", 3), ("get", 0), ("stop",), ("get", 1))
        self.assertIs(at_full_speed(parted(1, 1), program, 1), False)
        self.assertEqual(keepers_needed(parted(1, 1), program), 2)
        self.assertEqual(keepers_needed(parted(1, 2), program), 1)

    def test_gos_that_come_to_no_other_instruction_are_an_end(self):
        program = (("say",), ("zero", 3), ("stop",), ("go", 4), ("go", 3), ("get", 0))
        self.assertEqual(keepers_needed(ONE, program), 0)

    def test_fades_of_eight(self):
        program = (("say",),) * 8 + (("get", 0), ("go", 0))
        self.assertEqual(keepers_needed(((8,), (0,)), program), 1)
        self.assertEqual(keepers_needed(((8,), (0,)), program[1:]), 0)

    def test_many_moments_are_not_too_many(self):
        machine, program = junk.TOO_WIDE
        self.assertEqual(keepers_needed(machine, program), 1)
        self.assertIs(at_full_speed(machine, program, 0), False)

    def test_wrong_values(self):
        for hands in (-1, 5, True, False, None, "1", (1,), [], {}, 10 ** 20, -10 ** 20):
            self.assertRaises(BadNumber, at_full_speed, ONE, RING, hands)
        junk.refuses_machines(self, lambda machine: at_full_speed(machine, None, None))
        junk.refuses_machines(self, lambda machine: keepers_needed(machine, None))
        junk.refuses_programs(self, lambda program: at_full_speed(junk.MACHINE, program, None))
        junk.refuses_programs(self, lambda program: keepers_needed(junk.MACHINE, program))
        with self.assertRaises(BadProgram) as caught:
            keepers_needed(ONE, (("say",), ("touch", 0)))
        self.assertEqual(caught.exception.index, 1)


class AgainstTheWords(unittest.TestCase):
    def test_all_states(self):
        chance = plain.chance_of(121)
        seen = {}
        for _ in range(900):
            machine = plain.some_machine(chance, 4, 4)
            words = ("get", "plus", "minus", "set", "say", "zero", "zero", "zero", "go")
            program = plain.some_program(chance, len(machine[0]), 8, words) + ((("go", 0),) if chance.random() < 0.7 else ())
            able = [plain_hurries.at_full_speed(machine, program, hands) for hands in range(5)]
            self.assertEqual([at_full_speed(machine, program, hands) for hands in range(5)], able, (machine, program))
            self.assertEqual(keepers_needed(machine, program), able.index(True))
            seen[able.index(True)] = seen.get(able.index(True), 0) + 1
        self.assertGreater(len(seen), 2)
        self.assertGreater(seen[1], 50)

    def test_some_harder_ones(self):
        chance = plain.chance_of(122)
        seen = {}
        for _ in range(30):
            cells = chance.randint(3, 4)
            machine = parted(*[chance.randint(1, 4) for _ in range(cells)])
            reads = tuple(("get", cell) for cell in range(cells))
            program = (("say",), ("zero", 0), ("ask",), ("zero", chance.randint(0, 6))) + reads + (("zero", 2),)
            able = [plain_hurries.at_full_speed(machine, program, hands) for hands in range(5)]
            self.assertEqual([at_full_speed(machine, program, hands) for hands in range(5)], able, (machine, program))
            seen[able.index(True)] = True
        self.assertGreater(len(seen), 2)

    def test_no_keeper_is_needed_exactly_if_no_touch_is(self):
        chance = plain.chance_of(123)
        counts = {True: 0, False: 0}
        for _ in range(600):
            machine = plain.some_machine(chance, 3, 4)
            program = plain.some_program(chance, len(machine[0]), 8)
            alone = plain.fault(machine, program, program) is None
            self.assertIs(at_full_speed(machine, program, 0), alone, (machine, program))
            counts[alone] += 1
            if alone:
                self.assertTrue(can_be_kept(machine, program))
                self.assertIn(share(machine, program), (None, (1, 1)))
        self.assertGreater(min(counts.values()), 50)

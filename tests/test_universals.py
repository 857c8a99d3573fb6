import itertools
import unittest

from fademill.books import can_be_kept
from fademill.errors import NoWay, TooMany
from fademill.rounds import endless
from fademill.shares import share
from fademill.universals import hardest, keeps_all, least_share
from tests import junk, plain, plain_cells


def parted(*fades):
    """A machine each row of which is one cell."""
    return fades, tuple(range(len(fades)))


class Universals(unittest.TestCase):
    def test_one_cell(self):
        for fade in range(1, 9):
            self.assertIs(keeps_all(parted(fade)), fade > 1)
            self.assertEqual(least_share(parted(fade)), (fade - 1, fade) if fade > 1 else None)

    def test_cells_that_cannot_be_kept_for_ever(self):
        for machine in (parted(1, 8), parted(2, 3, 6), parted(8, 8, 8, 1), parted(3, 3, 3, 3)):
            self.assertIsNone(endless(machine, tuple(range(len(machine[0])))))
            self.assertIs(keeps_all(machine), False)
            self.assertIsNone(least_share(machine))

    def test_cells_that_can_be_kept_but_with_no_wait_among_the_ring(self):
        for machine in (parted(1), parted(2, 2), parted(3, 3, 3), parted(4, 4, 4, 4), ((1, 8), (0, 0)), ((2, 7, 2), (0, 1, 1)),
                        ((8, 1, 8, 8), (0, 0, 0, 0))):
            self.assertEqual(endless(machine, tuple(range(len(machine[0]))))[2], (0, 1))
            self.assertIs(keeps_all(machine), False, machine)
            self.assertIsNone(least_share(machine))
            self.assertFalse(can_be_kept(machine, hardest(machine)))

    def test_fades_of_eight(self):
        for cells in range(1, 5):
            machine = parted(*[8] * cells)
            self.assertIs(keeps_all(machine), True)
            top, low = least_share(machine)
            self.assertEqual(top * 8, low * (8 - cells))
        self.assertEqual(least_share(((8, 8, 8, 8), (0, 0, 0, 0))), (7, 8))

    def test_cells_that_share_a_row(self):
        self.assertEqual(least_share(((2, 8), (0, 0))), (1, 2))
        self.assertEqual(least_share(((2, 8, 8), (0, 1, 0))), (3, 8))
        self.assertIs(keeps_all(((2, 8, 2), (0, 1, 2))), False)
        self.assertIs(keeps_all(((2, 8, 2), (0, 1, 0))), True)

    def test_the_hardest(self):
        self.assertEqual(hardest(parted(2)), (("say",), ("ask",), ("zero", 0), ("get", 0)))
        self.assertEqual(hardest(((1, 2, 3, 4), (0, 0, 1, 0))),
                         (("say",), ("ask",), ("zero", 0), ("get", 0), ("get", 1), ("get", 2), ("get", 3)))

    def test_wrong_values(self):
        for call in (keeps_all, least_share, hardest):
            junk.refuses_machines(self, call)


class AgainstTheWords(unittest.TestCase):
    def test_the_hardest_tells_of_all(self):
        told = {}
        for rows in ((0,), (0, 0), (0, 1), (0, 1, 1), (0, 1, 0), (0, 1, 2)):
            for fades in itertools.product(range(1, 6), repeat=len(rows)):
                machine = (fades, rows)
                program = hardest(machine)
                self.assertIs(keeps_all(machine), can_be_kept(machine, program), machine)
                self.assertIs(keeps_all(machine), least_share(machine) is not None)
                told[keeps_all(machine)] = told.get(keeps_all(machine), 0) + 1
                try:
                    self.assertEqual(share(machine, program), least_share(machine), machine)
                except NoWay:
                    self.assertIsNone(least_share(machine), machine)
        self.assertGreater(min(told.values()), 50)

    def test_four_cells(self):
        for machine in (parted(4, 4, 5, 5), parted(3, 4, 6, 8), parted(2, 4, 8, 8), ((3, 5, 4, 3), (0, 1, 0, 1)),
                        ((2, 3, 4, 5), (0, 1, 1, 2))):
            self.assertIs(keeps_all(machine), can_be_kept(machine, hardest(machine)), machine)
            try:
                self.assertEqual(share(machine, hardest(machine)), least_share(machine), machine)
            except (NoWay, TooMany) as error:
                self.assertIs(isinstance(error, NoWay), not keeps_all(machine))

    def test_no_program_asks_for_more(self):
        chance = plain.chance_of(90)
        met = {True: 0, False: 0}
        for _ in range(1500):
            machine = plain.some_machine(chance, 4, 4)
            words = ("get", "plus", "minus", "set", "say", "zero", "zero", "go")
            program = plain.some_program(chance, len(machine[0]), 8, words) + (("go", 0),)
            able = keeps_all(machine)
            if able:
                self.assertTrue(can_be_kept(machine, program), (machine, program))
                least, got = least_share(machine), share(machine, program)
                if got is not None:
                    self.assertLessEqual(least[0] * got[1], got[0] * least[1], (machine, program))
                    met[least[0] * got[1] < got[0] * least[1]] += 1
        self.assertGreater(met[True], 50)
        self.assertGreater(met[False], 3)

    def test_the_share_of_waits(self):
        chance = plain.chance_of(91)
        seen = {}
        while len(seen) < 8:
            machine = plain.some_machine(chance, 3, 6)
            cells = tuple(range(len(machine[0])))
            if len(plain_cells.links(machine, cells)) <= 100:
                most = plain_cells.best_waits(machine, cells)
                wanted = None if most in (None, (0, 1)) else most
                self.assertEqual(least_share(machine), wanted, machine)
                seen[wanted] = True

import itertools
import unittest

from fademill.books import can_be_kept
from fademill.errors import BadCell, BadProgram, NoWay
from fademill.fadings import joined, least_fades
from fademill.shares import share
from fademill.universals import hardest
from tests import junk, plain, plain_hurries

# Four cells are a machine's, but more than rows may have here.
BAD_ROWS = ((), (1,), (0, 2), (1, 0), (0, 0, 2), (0, 1, 3), (-1,), (True,), (False,), (0, True), (None,), ("0",), ((0,),), ([],),
            [0], [], {}, {0: 0}, None, True, 0, 10 ** 30, "", "0", "01", (0, 0, 0, 0), (0, 1, 2, 3), (0, 1, 0, 1, 0), (0,) * 50,
            (0, {}), (0, 10 ** 30))
BAD_CELLS = (-1, 3, True, False, None, "0", (0,), [0], {}, (), 10 ** 30, -10 ** 30)
ALL_ROWS = ((0,), (0, 0), (0, 1), (0, 0, 0), (0, 0, 1), (0, 1, 0), (0, 1, 1), (0, 1, 2))


class Least(unittest.TestCase):
    def test_the_example(self):
        self.assertEqual(least_fades((0, 1), (("say",), ("get", 0), ("get", 1))), ((2, 3), (3, 2)))

    def test_a_program_that_needs_no_cell(self):
        for rows in ALL_ROWS:
            for program in ((("say",), ("go", 0)), (("stop",),), (("go", 0),), (("set", 0), ("get", 0)), (("get", 0),)):
                self.assertEqual(least_fades(rows, program), ((1,) * len(rows),))

    def test_fades_of_which_none_is_less(self):
        self.assertEqual(least_fades((0,), (("say",), ("get", 0))), ((2,),))
        self.assertEqual(least_fades((0, 0), (("say",), ("get", 0), ("get", 1))), ((2, 2),))
        # With 2 and 2 there is never a tick for the say.
        self.assertEqual(least_fades((0, 1), hardest(((2, 2), (0, 1)))), ((2, 4), (3, 3), (4, 2)))

    def test_the_most_that_any_program_of_three_cells_asks_for(self):
        found = least_fades((0, 1, 2), hardest(((2, 2, 2), (0, 1, 2))))
        self.assertIn((4, 4, 4), found)
        self.assertIn((2, 4, 8), found)
        self.assertIn((8, 4, 2), found)
        self.assertNotIn((1, 8, 8), found)
        self.assertEqual(list(found), sorted(found))
        self.assertEqual(len(found), 19)

    def test_there_always_are_some(self):
        # However hard a program is, fades of 8 will do for three cells, so that none has no fades at all.
        for rows in ALL_ROWS:
            machine = ((8,) * len(rows), rows)
            self.assertTrue(can_be_kept(machine, hardest(machine)))
        chance = plain.chance_of(100)
        for _ in range(20):
            rows = chance.choice(ALL_ROWS)
            self.assertNotEqual(least_fades(rows, plain.some_program(chance, len(rows), 20)), ())

    def test_no_program_of_three_cells_has_too_many_moments(self):
        program = (("say",),) * 17 + (("get", 0), ("get", 1), ("get", 2))
        self.assertTrue(least_fades((0, 1, 2), program))

    def test_wrong_values(self):
        for rows in BAD_ROWS:
            for program in (junk.PROGRAM, None, (("get", 0),)):
                self.assertRaises(BadCell, least_fades, rows, program)
        junk.refuses_programs(self, lambda program: least_fades((0, 1), program))
        with self.assertRaises(BadProgram) as caught:
            least_fades((0, 1), (("get", 0), ("get", 2)))
        self.assertEqual(caught.exception.index, 1)
        with self.assertRaises(BadProgram) as caught:
            least_fades((0, 1), (("get", 0), ("touch", 0)))
        self.assertEqual(caught.exception.index, 1)


class Joined(unittest.TestCase):
    def test_the_example(self):
        self.assertEqual(joined((0, 1, 2), 2, 0), (0, 1, 0))

    def test_rows_are_numbered_anew(self):
        for rows, one, other, told in (((0, 1, 2), 0, 1, (0, 0, 1)), ((0, 1, 2), 1, 0, (0, 0, 1)), ((0, 1, 2), 1, 2, (0, 1, 1)),
                                       ((0, 1, 0), 0, 1, (0, 0, 0)), ((0, 1, 0), 1, 2, (0, 0, 0)), ((0, 0, 1), 2, 1, (0, 0, 0)),
                                       ((0, 1), 0, 1, (0, 0))):
            self.assertEqual(joined(rows, one, other), told)

    def test_a_cell_with_itself_or_with_one_of_its_row(self):
        for rows in ALL_ROWS:
            for cell in range(len(rows)):
                self.assertEqual(joined(rows, cell, cell), rows)
        self.assertEqual(joined((0, 1, 0), 0, 2), (0, 1, 0))
        self.assertEqual(joined((0,), 0, 0), (0,))

    def test_all(self):
        for rows in ALL_ROWS:
            for one, other in itertools.product(range(len(rows)), repeat=2):
                self.assertEqual(joined(rows, one, other), plain_hurries.joined(rows, one, other))

    def test_wrong_values(self):
        for rows in BAD_ROWS:
            self.assertRaises(BadCell, joined, rows, 0, 0)
            self.assertRaises(BadCell, joined, rows, None, None)
        for cell in BAD_CELLS:
            self.assertRaises(BadCell, joined, (0, 1, 2), cell, 0)
            self.assertRaises(BadCell, joined, (0, 1, 2), 0, cell)
        self.assertRaises(BadCell, joined, (0, 1), 0, 2)
        self.assertRaises(BadCell, joined, (0, 1), 2, 0)


class AgainstTheWords(unittest.TestCase):
    def some(self, chance, most):
        rows = chance.choice(ALL_ROWS)
        words = ("get", "get", "plus", "set", "say", "ask", "zero", "zero", "go")
        return rows, plain.some_program(chance, len(rows), most, words)

    def test_all_fades_of_one_and_two_cells(self):
        chance = plain.chance_of(101)
        seen = {}
        while len(seen) < 7:
            rows, program = self.some(chance, 7)
            if len(rows) < 3:
                wanted = plain_hurries.least_fades(rows, lambda machine: able(machine, program), 8)
                self.assertEqual(least_fades(rows, program), wanted, (rows, program))
                seen[wanted] = True
        self.assertGreater(max(len(wanted) for wanted in seen), 1)

    def test_all_fades_of_three_cells(self):
        chance = plain.chance_of(102)
        for _ in range(12):
            rows, program = self.some(chance, 12)
            wanted = plain_hurries.least_fades(rows, lambda machine: can_be_kept(machine, program), 8)
            self.assertEqual(least_fades(rows, program), wanted, (rows, program))

    def test_kept_exactly_if_nowhere_less_than_some(self):
        chance = plain.chance_of(103)
        counts = {True: 0, False: 0}
        for _ in range(150):
            rows, program = self.some(chance, 14)
            least = least_fades(rows, program + (("go", 0),))
            for _ in range(10):
                fades = tuple(chance.randint(1, 5) for _ in rows)
                some = any(all(a <= b for a, b in zip(one, fades)) for one in least)
                self.assertIs(can_be_kept((fades, rows), program + (("go", 0),)), some, (fades, rows, program))
                counts[some] += 1
        self.assertGreater(min(counts.values()), 100)

    def test_rows_made_one_never_harm(self):
        chance = plain.chance_of(104)
        counts = {True: 0, False: 0}
        for _ in range(600):
            rows, program = self.some(chance, 8)
            program = program + (("go", 0),)
            fades = tuple(chance.randint(1, 4) for _ in rows)
            one, other = chance.randrange(len(rows)), chance.randrange(len(rows))
            both = joined(rows, one, other)
            try:
                before = share((fades, rows), program)
            except NoWay:
                continue
            after = share((fades, both), program)
            self.assertIs(before is None, after is None)
            if before is not None:
                self.assertLessEqual(before[0] * after[1], after[0] * before[1], (fades, rows, program, one, other))
                counts[before != after] += 1
        self.assertGreater(min(counts.values()), 3)


def able(machine, program):
    doomed, _ = plain.ranks(machine, program)
    return plain.beginning(machine, program) not in doomed

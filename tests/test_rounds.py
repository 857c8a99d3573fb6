import itertools
import unittest

from fademill.errors import BadCell
from fademill.rounds import endless, keeps, load, longest
from tests import junk, plain, plain_cells

BAD_LOTS = ((), [0], (2,), (-1,), (True,), (False,), (0, True), ("0",), (None,), ((0,),), (1, 0), (0, 0), (0, 1, 1), (0, 1, 2),
            0, "01", None, {0: 1}, {}, True, 10 ** 20, (10 ** 20,), ([],), ({},))


class Endless(unittest.TestCase):
    def test_the_example(self):
        self.assertEqual(endless(((2, 4), (0, 1)), (0, 1))[2], (1, 4))
        self.assertEqual(longest(((1, 3), (0, 1)), (0, 1)), (2, (0, 0)))
        self.assertEqual(load(((2, 4), (0, 1)), (0, 1)), (3, 4))

    def test_one_cell(self):
        for fade in range(1, 9):
            lead, ring, share = endless(((fade,), (0,)), (0,))
            self.assertEqual(share, (fade - 1, fade) if fade > 1 else (0, 1))
            self.assertTrue(keeps(((fade,), (0,)), (0,), lead, ring))

    def test_a_share_of_zero_in_lowest_terms(self):
        lead, ring, share = endless(((2, 2), (0, 1)), (0, 1))
        self.assertEqual(share, (0, 1))
        self.assertNotIn(None, ring)
        self.assertTrue(plain_cells.keeps(((2, 2), (0, 1)), (0, 1), lead, ring))

    def test_cells_that_cannot_be_kept(self):
        for machine, cells in ((((1, 8), (0, 1)), (0, 1)), (((2, 3, 8), (0, 1, 2)), (0, 1, 2)), (((1, 1), (0, 1)), (0, 1))):
            self.assertIsNone(endless(machine, cells))
            self.assertIsNotNone(longest(machine, cells))

    def test_some_of_the_cells(self):
        machine = ((1, 8, 2), (0, 1, 2))
        self.assertEqual(endless(machine, (1,))[2], (7, 8))
        self.assertEqual(endless(machine, (1, 2))[2], (3, 8))
        self.assertIsNone(endless(machine, (0, 1)))
        self.assertEqual(longest(machine, (0, 2))[0], 1)

    def test_cells_that_share_a_row(self):
        machine = ((1, 8, 1), (0, 1, 0))
        self.assertEqual(endless(machine, (0, 2))[2], (0, 1))
        self.assertEqual(endless(((3, 8, 5), (0, 1, 0)), (0, 2))[2], (2, 3))
        self.assertEqual(endless(((4, 4, 4, 4), (0, 1, 0, 1)), (0, 1, 2, 3))[2], (1, 2))
        self.assertIsNone(endless(machine, (0, 1, 2)))

    def test_the_longest_ones(self):
        # What could be found by taking the least life first is not enough here.
        for fades, told in (((2, 3, 6), None), ((3, 6, 7, 8), (5, 27)), ((5, 7, 7, 8), (35, 96)), ((8, 8, 8, 8), (1, 2))):
            machine = (fades, tuple(range(len(fades))))
            cells = machine[1]
            answer = endless(machine, cells)
            self.assertEqual(None if answer is None else answer[2], told)
            if told is not None:
                self.assertLessEqual(max(len(answer[0]), len(answer[1])), 400)
                self.assertTrue(keeps(machine, cells, answer[0], answer[1]))

    def test_load_and_waits_are_together_at_most_one(self):
        for fades in itertools.combinations_with_replacement(range(1, 9), 3):
            machine = (fades, (0, 1, 2))
            answer = endless(machine, (0, 1, 2))
            if answer is not None:
                top, low = load(machine, (0, 1, 2))
                self.assertLessEqual(top * answer[2][1] + answer[2][0] * low, low * answer[2][1])


class Keeps(unittest.TestCase):
    def test_what_keeps(self):
        machine = ((2, 4), (0, 1))
        for lead, ring, told in (((), (0, 1), True), ((), (0, None), False), ((), (0, 1, 0, None), True), ((), (1, 0), True),
                                 ((0, 1, 0), (1, 0), True), ((None,), (0, 1), True), ((None, None), (0, 1), False),
                                 ((None, 1), (0, 1), False), ((None, 0, None), (0, 1, 0, None), False),
                                 ((), (0,), False), ((), (1,), False), ((), (None,), False), ((), (), False), ((0,), (), False)):
            self.assertIs(keeps(machine, (0, 1), lead, ring), told, (lead, ring))
        self.assertIs(keeps(machine, (1,), (), (None, None, None, 1)), True)
        self.assertIs(keeps(machine, (1,), (), (None, None, None, None, 1)), False)
        self.assertIs(keeps(machine, (1,), (None, None, None), (1, 0, 0, 0)), True)
        self.assertIs(keeps(machine, (1,), (None, None, None, None), (1,)), False)

    def test_a_ring_that_keeps_but_a_while(self):
        # Nothing is lost in the first ring, but in the second.
        self.assertIs(keeps(((8,), (0,)), (0,), (), (None, None, None)), False)
        self.assertIs(keeps(((4, 8), (0, 1)), (0, 1), (), (0, None, None)), False)
        self.assertIs(keeps(((3,), (0,)), (0,), (), (0, None, None)), True)
        self.assertIs(keeps(((3,), (0,)), (0,), (0,), (None, 0, None)), True)
        self.assertIs(keeps(((3,), (0,)), (0,), (0, None), (None, 0, None)), True)
        self.assertIs(keeps(((3,), (0,)), (0,), (0, None, None), (None, 0, None)), False)

    def test_touches_of_cells_that_are_not_kept(self):
        machine = ((1, 4, 4), (0, 1, 0))
        self.assertIs(keeps(machine, (2,), (None,), (0, None, None, None)), True)
        self.assertIs(keeps(machine, (0,), (), (2,)), True)
        self.assertIs(keeps(machine, (1,), (), (0, 2, None, None)), False)

    def test_at_most_400_deeds(self):
        machine = ((8,), (0,))
        for many, told in ((400, True), (401, False)):
            self.assertIs(keeps(machine, (0,), (), (0,) * many), told)
            self.assertIs(keeps(machine, (0,), (0,) * many, (0,)), told)

    def test_any_value(self):
        machine = ((8, 8), (0, 1))
        for value in junk.VALUES + (((0, 2),), (-1,), (0, -1), (2,), (True,), (0, False), [0], (0.5,), "0", ("0",)):
            self.assertIs(keeps(machine, (0,), (0,), value), False)
            self.assertIs(keeps(machine, (0,), value, (0,)), value in ((), (None,)), value)
            self.assertIs(keeps(machine, (0,), value, value), False)


class Longest(unittest.TestCase):
    def test_none_if_they_can_be_kept(self):
        self.assertIsNone(longest(((2, 4), (0, 1)), (0, 1)))
        self.assertIsNone(longest(((1,), (0,)), (0,)))

    def test_no_deed_at_all(self):
        self.assertEqual(longest(((1, 1), (0, 1)), (0, 1)), (0, ()))

    def test_rows_can_be_done(self):
        machine = ((2, 3, 6), (0, 1, 2))
        many, row = longest(machine, (0, 1, 2))
        self.assertEqual((many, len(row)), (plain_cells.most_deeds(machine, (0, 1, 2)), many))


class Loads(unittest.TestCase):
    def test_loads(self):
        machine = ((1, 2, 8, 6), (0, 1, 1, 2))
        for cells, told in (((0,), (1, 1)), ((1,), (1, 2)), ((2,), (1, 8)), ((0, 1), (3, 2)), ((2, 3), (7, 24)),
                            ((0, 1, 2, 3), (43, 24)), ((1, 3), (2, 3))):
            self.assertEqual(load(machine, cells), told)
        self.assertEqual(load(((2, 2), (0, 1)), (0, 1)), (1, 1))
        self.assertEqual(load(((2, 2), (0, 0)), (0, 1)), (1, 1))


class WrongValues(unittest.TestCase):
    def test_no_lot(self):
        for call in (endless, longest, load, lambda machine, cells: keeps(machine, cells, None, None)):
            for lot in BAD_LOTS:
                self.assertRaises(BadCell, call, ((2, 4), (0, 1)), lot)

    def test_no_machine(self):
        for call in (endless, longest, load, lambda machine, cells: keeps(machine, cells, None, None)):
            junk.refuses_machines(self, lambda machine: call(machine, None))


class AgainstTheWords(unittest.TestCase):
    def some(self, chance):
        machine = plain.some_machine(chance, 4, chance.choice((4, 6)))
        many = len(machine[0])
        return machine, tuple(sorted(chance.sample(range(many), chance.randint(1, many))))

    def test_rings_and_rows(self):
        chance = plain.chance_of(60)
        counts = {True: 0, False: 0}
        for _ in range(250):
            machine, cells = self.some(chance)
            answer = endless(machine, cells)
            again = endless(machine, cells)
            self.assertEqual(answer, again)
            counts[answer is None] += 1
            most = plain_cells.most_deeds(machine, cells)
            if answer is None:
                many, row = longest(machine, cells)
                self.assertEqual((many, len(row)), (most, most))
                lives = machine[0]
                for one in row:
                    lives = plain_cells.behind(machine, lives, one)
                    self.assertTrue(plain_cells.alive(cells, lives))
            else:
                lead, ring, share = answer
                self.assertIsNone(most)
                self.assertIsNone(longest(machine, cells))
                self.assertTrue(ring)
                self.assertTrue(plain_cells.keeps(machine, cells, lead, ring), (machine, cells))
                self.assertIs(keeps(machine, cells, lead, ring), True)
                self.assertEqual(share[0] * len(ring), ring.count(None) * share[1])
        self.assertGreater(min(counts.values()), 30)

    def test_no_ring_has_more_waits(self):
        chance = plain.chance_of(61)
        seen = {}
        while len(seen) < 20:
            machine, cells = self.some(chance)
            if len(plain_cells.links(machine, cells)) <= 150:
                answer = endless(machine, cells)
                share = None if answer is None else answer[2]
                self.assertEqual(share, plain_cells.best_waits(machine, cells), (machine, cells))
                seen[share] = True

    def test_what_keeps(self):
        chance = plain.chance_of(62)
        counts = {True: 0, False: 0}
        for _ in range(3000):
            machine, cells = self.some(chance)
            choice = list(cells) * 2 + [None] + list(range(len(machine[0])))
            lead = tuple(chance.choice(choice) for _ in range(chance.randint(0, 3)))
            ring = tuple(chance.choice(choice) for _ in range(chance.randint(1, 6)))
            told = plain_cells.keeps(machine, cells, lead, ring)
            counts[told] += 1
            self.assertIs(keeps(machine, cells, lead, ring), told, (machine, cells, lead, ring))
        self.assertGreater(min(counts.values()), 300)

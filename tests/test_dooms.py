import unittest

from fademill.books import rank
from fademill.dooms import doom, shows_doom
from fademill.errors import TooMany
from tests import junk, plain, plain_shares

ONE = ((1,), (0,))
LATE = (("say",), ("say",), ("get", 0))


class Dooms(unittest.TestCase):
    def test_what_is_not_doomed_has_no_paper(self):
        self.assertIsNone(doom(((2,), (0,)), LATE))
        for value in (None, (), ((0, (2,), 0),), ((0, (2,), 2), (1, (1,), 1), (2, (0,), 0))):
            self.assertIs(shows_doom(((2,), (0,)), LATE, value), False)

    def test_the_beginning_has_its_own_rank(self):
        paper = doom(ONE, LATE)
        self.assertIn((0, (1,), 2), paper)
        self.assertIs(shows_doom(ONE, LATE, paper), True)
        self.assertEqual(paper, tuple(sorted(paper)))

    def test_papers_bent_by_hand(self):
        good = ((0, (1,), 2), (1, (0,), 1), (1, (1,), 1), (2, (0,), 0))
        self.assertEqual(set(doom(ONE, LATE)) - set(good), set())
        small = ((0, (1,), 2), (1, (0,), 1), (2, (0,), 0))
        for value, told in ((small, True), (good, False), (small[::-1], False), (small[1:], False), (small[:2], False),
                            (small + small[2:], False), (small[:1] + small, False), (list(small), False),
                            (((0, (1,), 1),) + small[1:], False), (((0, (1,), 7),) + small[1:], True),
                            (((0, (1,), 2), (1, (0,), 2), (2, (0,), 0)), False),
                            (((0, (1,), 2), (1, (0,), 1), (2, (0,), 1)), False),
                            (((0, (1,), 3), (1, (0,), 2), (2, (0,), 1)), True),
                            (((0, (1,), 2), (1, (0,), 1), (2, (0,), 0), (3, (0,), 0)), False),
                            (((0, (1,), 2), (1, (0,), 1), (2, (0,), -1)), False),
                            (((0, (True,), 2), (1, (0,), 1), (2, (0,), 0)), False),
                            (((False, (1,), 2), (1, (0,), 1), (2, (0,), 0)), False),
                            (((0, (1,), 2), (1, (0,), True), (2, (0,), 0)), False),
                            (((0, [1], 2), (1, (0,), 1), (2, (0,), 0)), False),
                            (([0, (1,), 2], (1, (0,), 1), (2, (0,), 0)), False)):
            self.assertIs(shows_doom(ONE, LATE, value), told, value)

    def test_a_touch_must_lead_to_no_greater_rank(self):
        # The row of cell 1 may be touched ahead of the say: cell 0 is lost then, too.
        machine, program = ((1, 8), (0, 1)), (("say",), ("get", 0), ("get", 1))
        paper = doom(machine, program)
        ranks = {triple[:2]: triple[2] for triple in paper}
        self.assertIs(shows_doom(machine, program, paper), True)
        for moment in ranks:
            for more in (1, 2, 5):
                changed = tuple(sorted(one + (number + more if one == moment else number,) for one, number in ranks.items()))
                self.assertIs(shows_doom(machine, program, changed), plain_shares.shows_doom(machine, program, changed))

    def test_ranks_to_a_million(self):
        paper = doom(ONE, LATE)
        for most, told in ((10 ** 6, True), (10 ** 6 + 1, False)):
            moved = tuple((at, lives, number + most - 2) for at, lives, number in paper)
            self.assertIs(shows_doom(ONE, LATE, moved), told)

    def test_a_program_that_begins_at_its_end(self):
        for program in ((("stop",),), (("go", 0), ("get", 0))):
            self.assertIsNone(doom(ONE, program))
            for value in (None, (), ((len(program), (0,), 0),), ((0, (0,), 0),), ((0, (1,), 0),)):
                self.assertIs(shows_doom(ONE, program, value), False)

    def test_any_value(self):
        for value in junk.VALUES:
            self.assertIs(shows_doom(ONE, LATE, value), False)
            self.assertIs(shows_doom(ONE, LATE, ((0, value, 2), (1, (0,), 1), (2, (0,), 0))), False)
            self.assertIs(shows_doom(ONE, LATE, ((0, (1,), 2), value, (2, (0,), 0))), False)
            self.assertIs(shows_doom(ONE, LATE, ((0, (value,), 2), (1, (0,), 1), (2, (0,), 0))), False)
            self.assertIs(shows_doom(ONE, LATE, ((value, (1,), 2), (1, (0,), 1), (2, (0,), 0))), False)
            self.assertIs(shows_doom(ONE, LATE, ((0, (1,), value), (1, (0,), 1), (2, (0,), 0))), False)

    def test_too_many(self):
        for call in (lambda: doom(*junk.TOO_WIDE), lambda: shows_doom(*junk.TOO_WIDE, None)):
            with self.assertRaises(TooMany) as caught:
                call()
            self.assertEqual(caught.exception.most, 20000)
        # That more than 1000 moments aren't doomed is no matter here.
        machine, program = junk.DOOMED_AND_WIDE
        self.assertIs(shows_doom(machine, program, doom(machine, program)), True)

    def test_wrong_values(self):
        junk.refuses_machines(self, lambda machine: doom(machine, None))
        junk.refuses_machines(self, lambda machine: shows_doom(machine, None, None))
        junk.refuses_programs(self, lambda program: doom(junk.MACHINE, program))
        junk.refuses_programs(self, lambda program: shows_doom(junk.MACHINE, program, ()))


class AgainstTheWords(unittest.TestCase):
    def test_papers_and_bent_ones(self):
        chance = plain.chance_of(30)
        counts = {True: 0, False: 0}
        papers = 0
        for _ in range(300):
            machine = plain.some_machine(chance, 3, 2)
            program = plain.some_program(chance, len(machine[0]), 7, ("get", "plus", "set", "say", "zero", "zero", "go"))
            paper = doom(machine, program)
            own = rank(machine, program)
            self.assertIs(paper is None, own is None)
            if paper is None:
                self.assertIs(shows_doom(machine, program, ()), False)
                continue
            papers += 1
            self.assertIs(shows_doom(machine, program, paper), True)
            self.assertTrue(plain_shares.shows_doom(machine, program, paper))
            self.assertIn(plain.beginning(machine, program) + (own,), paper)
            for _ in range(20):
                value = plain_shares.bent(chance, paper)
                told = plain_shares.shows_doom(machine, program, value)
                counts[told] += 1
                self.assertIs(shows_doom(machine, program, value), told, (machine, program, value))
        self.assertGreater(papers, 60)
        self.assertGreater(min(counts.values()), 50)

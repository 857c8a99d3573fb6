import unittest

from fademill.errors import NoWay, TooMany
from fademill.papers import share_paper, shows_share
from fademill.shares import share
from tests import junk, plain, plain_shares

MACHINE = ((3,), (0,))
PROGRAM = (("say",), ("zero", 0), ("get", 0), ("go", 0))


def changed(paper, part, at, number):
    """A paper with another number told in one of its triples."""
    triples = paper[part]
    triple = triples[at][:2] + (number,)
    return paper[:part] + (triples[:at] + (triple,) + triples[at + 1:],) + paper[part + 1:]


class Papers(unittest.TestCase):
    def test_the_paper_of_a_share(self):
        paper = share_paper(MACHINE, PROGRAM)
        self.assertEqual(paper[0], share(MACHINE, PROGRAM))
        self.assertIs(shows_share(MACHINE, PROGRAM, paper), True)
        for part in paper[1:]:
            self.assertEqual(part, tuple(sorted(part)))
            self.assertIn((0, (3,)), [triple[:2] for triple in part])

    def test_numbers_that_are_all_moved_to_a_million(self):
        paper = share_paper(MACHINE, PROGRAM)
        for part in (1, 2):
            most = max(number for _, _, number in paper[part])
            for wanted, told in ((10 ** 6, True), (10 ** 6 + 1, False)):
                moved = tuple((at, lives, number + wanted - most) for at, lives, number in paper[part])
                self.assertIs(shows_share(MACHINE, PROGRAM, paper[:part] + (moved,) + paper[part + 1:]), told)

    def test_each_number_told_otherwise(self):
        paper = share_paper(MACHINE, PROGRAM)
        counts = {True: 0, False: 0}
        for part in (1, 2):
            for at in range(len(paper[part])):
                for number in (-1, 0, 1, 2, 3, 4, 5, 10 ** 6, 10 ** 6 + 1, True, None):
                    value = changed(paper, part, at, number)
                    told = plain_shares.shows_share(MACHINE, PROGRAM, value)
                    counts[told] += 1
                    self.assertIs(shows_share(MACHINE, PROGRAM, value), told, value)
        self.assertGreater(min(counts.values()), 5)

    def test_ratios(self):
        paper = share_paper(MACHINE, PROGRAM)
        self.assertEqual(paper[0], (2, 3))
        for ratio in ((4, 6), (0, 1), (1, 1), (1, 2), (3, 4), (3, 2), (2, -3), (-2, -3), (-2, 3), (2, 0), (2, 3, 1), [2, 3], (2,), 2,
                      (2, True), (True, 3), (10 ** 6, 10 ** 6 + 1), (999999, 1000000), None, "23", {2: 3}, (2, "3")):
            self.assertIs(shows_share(MACHINE, PROGRAM, (ratio,) + paper[1:]), False, ratio)
        self.assertIs(shows_share(MACHINE, PROGRAM, ((2, 3),) + paper[1:]), True)

    def test_a_ratio_that_is_not_in_lowest_terms(self):
        ratio, heights, depths = share_paper(MACHINE, PROGRAM)
        for times, told in ((1, True), (2, False), (7, False)):
            value = (tuple(number * times for number in ratio),) + tuple(
                tuple((at, lives, number * times) for at, lives, number in part) for part in (heights, depths))
            self.assertIs(shows_share(MACHINE, PROGRAM, value), told)

    def test_moments_that_are_doomed_or_do_not_count(self):
        machine, program = ((2, 2), (0, 1)), (("get", 0), ("get", 1), ("go", 0))
        ratio, heights, depths = share_paper(machine, program)
        doomed, found = plain.ranks(machine, program)
        self.assertGreater(min(len(doomed), len(found) - len(doomed)), 3)
        for moment in list(doomed) + [(0, (0, 0)), (2, (2, 2)), (0, (2,)), (3, (0, 0))]:
            for number in (0, 10 ** 6):
                triple = (moment + (number,),)
                for value in ((ratio, tuple(sorted(heights + triple)), depths), (ratio, heights, tuple(sorted(depths + triple)))):
                    self.assertIs(shows_share(machine, program, value), False)

    def test_a_true_is_no_share_of_one(self):
        machine, program = ((2,), (0,)), (("get", 0), ("go", 0))
        heights = ((0, (2,), 0),)
        self.assertIs(shows_share(machine, program, ((1, 1), heights, heights)), True)
        for ratio in ((True, 1), (1, True), (True, True)):
            self.assertIs(shows_share(machine, program, (ratio, heights, heights)), False)
        for triple in ((False, (2,), 0), (0, (2,), False)):
            self.assertIs(shows_share(machine, program, ((1, 1), (triple,), heights)), False)
            self.assertIs(shows_share(machine, program, ((1, 1), heights, (triple,))), False)

    def test_the_end_has_a_height_of_zero_and_no_depth(self):
        # The course that ends needs nothing; a depth must not rest on the end.
        machine, program = ((2,), (0,)), (("zero", 0), ("say",), ("get", 0))
        paper = share_paper(machine, program)
        self.assertIs(shows_share(machine, program, paper), True)
        behind = (1, (1,), 0)
        for told in (0, 5):
            value = (paper[0], paper[1], tuple(sorted(paper[2] + (behind[:2] + (told,),))))
            self.assertIs(shows_share(machine, program, value), False)
            self.assertIs(plain_shares.shows_share(machine, program, value), False)
        alone = ((1, 1), ((0, (0,), 0),), ((0, (0,), 0),))
        self.assertIs(shows_share(machine, (("zero", 0),), alone), True)

    def test_none_if_no_course_goes_on_for_ever(self):
        for program in ((("stop",),), (("go", 0),), (("get", 0),), (("zero", 2), ("get", 0), ("say",))):
            self.assertIsNone(share_paper(MACHINE, program))
            for value in (None, (), ((1, 1), (), ()), ((1, 1), ((0, (3,), 0),), ((0, (3,), 0),))):
                self.assertIs(shows_share(MACHINE, program, value), False)

    def test_any_value(self):
        paper = share_paper(MACHINE, PROGRAM)
        for value in junk.VALUES:
            for bent in (value, (value,), (value,) + paper[1:], (paper[0], value, paper[2]), paper[:2] + (value,),
                         (paper[0], (value,), paper[2]), paper[:2] + ((value,),), paper + (value,),
                         (paper[0], paper[1] + (value,), paper[2]), paper[:2] + ((value,) + paper[2],)):
                self.assertIs(shows_share(MACHINE, PROGRAM, bent), False, bent)

    def test_no_way(self):
        self.assertRaises(NoWay, share_paper, ((1,), (0,)), PROGRAM)
        self.assertRaises(NoWay, shows_share, ((1,), (0,)), PROGRAM, None)
        self.assertRaises(NoWay, shows_share, ((1,), (0,)), (("say",), ("get", 0)), None)
        self.assertRaises(NoWay, share_paper, *junk.DOOMED_AND_WIDE)
        self.assertRaises(NoWay, shows_share, *junk.DOOMED_AND_WIDE, ())

    def test_a_thousand_moments_and_one_more(self):
        for machine, program in (junk.FULL_ENDING, junk.FULL_ENDLESS):
            paper = share_paper(machine, program)
            self.assertIs(paper is None, not plain.may_go_on(program))
            self.assertIs(shows_share(machine, program, paper), paper is not None)
            if paper is not None:
                self.assertTrue(plain_shares.shows_share(machine, program, paper))
            for arguments in ((share_paper, machine, program + junk.ONE_MORE),
                              (shows_share, machine, program + junk.ONE_MORE, None)):
                with self.assertRaises(TooMany) as caught:
                    arguments[0](*arguments[1:])
                self.assertEqual(caught.exception.most, 1000)

    def test_more_than_twenty_thousand(self):
        for arguments in ((share_paper, *junk.TOO_WIDE), (shows_share, *junk.TOO_WIDE, None)):
            with self.assertRaises(TooMany) as caught:
                arguments[0](*arguments[1:])
            self.assertEqual(caught.exception.most, 20000)

    def test_wrong_values(self):
        junk.refuses_machines(self, lambda machine: share_paper(machine, None))
        junk.refuses_machines(self, lambda machine: shows_share(machine, None, None))
        junk.refuses_programs(self, lambda program: share_paper(junk.MACHINE, program))
        junk.refuses_programs(self, lambda program: shows_share(junk.MACHINE, program, ()))


class AgainstTheWords(unittest.TestCase):
    def test_papers_and_bent_ones(self):
        chance = plain.chance_of(50)
        counts = {True: 0, False: 0}
        ratios = {}
        for _ in range(250):
            machine = plain.some_machine(chance, 3, 4)
            words = ("get", "plus", "set", "say", "zero", "zero", "go")
            program = plain.some_program(chance, len(machine[0]), 7, words) + (("go", 0),)
            if plain.beginning(machine, program) not in plain_shares.open_moves(machine, program):
                continue
            paper = share_paper(machine, program)
            if paper is None:
                self.assertFalse(plain.may_go_on(program))
                continue
            self.assertEqual(paper[0], share(machine, program))
            self.assertIs(shows_share(machine, program, paper), True)
            self.assertTrue(plain_shares.shows_share(machine, program, paper), (machine, program))
            ratios[paper[0]] = True
            for _ in range(12):
                value = plain_shares.bent(chance, paper)
                told = plain_shares.shows_share(machine, program, value)
                counts[told] += 1
                self.assertIs(shows_share(machine, program, value), told, (machine, program, value))
        self.assertGreater(len(ratios), 8)
        self.assertGreater(min(counts.values()), 50)

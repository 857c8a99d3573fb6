import unittest

from fademill.errors import NoWay, TooMany
from fademill.shares import kept_best, share
from fademill.walks import carries
from fademill.writing import kept
from tests import junk, plain, plain_shares


class Shares(unittest.TestCase):
    def test_the_example(self):
        self.assertEqual(share(((3,), (0,)), (("say",), ("zero", 0), ("get", 0), ("go", 0))), (2, 3))
        self.assertEqual(share(((2, 2), (0, 1)), (("get", 0), ("get", 1), ("go", 0))), (1, 1))
        self.assertIsNone(share(((1,), (0,)), (("get", 0),)))

    def test_the_worst_course_counts(self):
        # On the one ring each instruction keeps the cell, on the other a touch is needed for each two.
        machine, program = ((2,), (0,)), (("ask",), ("zero", 3), ("go", 0), ("get", 0), ("go", 0))
        self.assertRaises(NoWay, share, ((1,), (0,)), program)
        self.assertEqual(share(machine, program), (1, 2))
        self.assertEqual(share(((3,), (0,)), program), (2, 3))

    def test_what_is_done_but_for_a_while_does_not_count(self):
        # Touches ahead of the ring are no matter.
        program = (("say",), ("say",), ("say",), ("get", 0), ("say",), ("go", 4))
        self.assertEqual(share(((2,), (0,)), program), (1, 1))

    def test_courses_that_end_do_not_count(self):
        program = (("zero", 2), ("go", 0), ("say",), ("say",), ("say",), ("get", 0))
        self.assertEqual(share(((2,), (0,)), program), (1, 2))
        program = (("zero", 3), ("get", 0), ("go", 0), ("say",), ("say",), ("get", 0))
        self.assertEqual(share(((2,), (0,)), program), (1, 1))

    def test_gos_that_come_to_no_other_instruction_are_an_end(self):
        self.assertIsNone(share(((2,), (0,)), (("get", 0), ("go", 1))))
        self.assertIsNone(share(((2,), (0,)), (("zero", 2), ("stop",), ("go", 3), ("go", 2))))
        # The read stands behind a go to itself: it is never come to.
        self.assertEqual(share(((2,), (0,)), (("zero", 0), ("go", 1), ("get", 0))), (1, 1))

    def test_cells_that_are_not_needed(self):
        self.assertEqual(share(((1, 1, 1, 1), (0, 1, 2, 3)), (("say",), ("go", 0))), (1, 1))
        self.assertEqual(share(((2, 1), (0, 1)), (("say",), ("set", 1), ("get", 1), ("go", 0))), (1, 1))

    def test_cells_that_share_a_row(self):
        program = (("say",), ("zero", 0), ("get", 0), ("get", 1), ("go", 0))
        self.assertEqual(share(((4, 4), (0, 0)), program), (3, 4))
        self.assertEqual(share(((5, 5), (0, 1)), program), (3, 5))

    def test_rings_that_touch_the_cells_themselves(self):
        program = (("get", 0), ("get", 1), ("get", 2), ("go", 0))
        for fades, told in (((3, 3, 3), (1, 1)), ((3, 4, 4), (1, 1)), ((2, 4, 4), (3, 4))):
            self.assertEqual(share((fades, (0, 1, 2)), program), told)

    def test_none_if_all_courses_end(self):
        for program in ((("stop",),), (("go", 0),), (("say",), ("get", 0)), (("zero", 2), ("get", 0), ("say",))):
            self.assertIsNone(share(((2,), (0,)), program))
            written = kept_best(((2,), (0,)), program)
            self.assertTrue(carries(((2,), (0,)), program, written))

    def test_no_way(self):
        for call in (share, kept_best):
            for program in ((("say",), ("get", 0)), (("say",), ("get", 0), ("go", 0))):
                self.assertRaises(NoWay, call, ((1,), (0,)), program)

    def test_a_thousand_moments_and_one_more(self):
        for machine, program in (junk.FULL_ENDING, junk.FULL_ENDLESS):
            written = kept_best(machine, program)
            self.assertTrue(carries(machine, program, written))
            self.assertEqual(share(machine, program), plain_shares.worst_share(written))
            self.assertIs(share(machine, program) is None, not plain.may_go_on(program))
            for call in (share, kept_best):
                with self.assertRaises(TooMany) as caught:
                    call(machine, program + junk.ONE_MORE)
                self.assertEqual(caught.exception.most, 1000)

    def test_no_way_comes_ahead_of_too_many(self):
        for call in (share, kept_best):
            self.assertRaises(NoWay, call, *junk.DOOMED_AND_WIDE)
            with self.assertRaises(TooMany) as caught:
                call(*junk.TOO_WIDE)
            self.assertEqual(caught.exception.most, 20000)

    def test_wrong_values(self):
        for call in (share, kept_best):
            junk.refuses_machines(self, lambda machine: call(machine, None))
            junk.refuses_programs(self, lambda program: call(junk.MACHINE, program))

    def test_equal_arguments_have_equal_answers(self):
        machine, program = ((3, 5), (0, 1)), (("zero", 0), ("get", 0), ("zero", 0), ("get", 1), ("go", 0))
        self.assertEqual(kept_best(machine, program), kept_best(machine, program))
        self.assertEqual(share(machine, program), share(machine, program))


class AgainstTheWords(unittest.TestCase):
    def some(self, chance, most_fade, most):
        words = ("get", "plus", "set", "say", "ask", "zero", "zero", "go")
        machine = plain.some_machine(chance, 4, most_fade)
        program = plain.some_program(chance, len(machine[0]), most, words)
        return machine, program + ((("go", 0),) if chance.random() < 0.6 else ())

    def test_shares_in_the_long_run(self):
        chance = plain.chance_of(40)
        seen = {}
        for _ in range(1500):
            machine, program = self.some(chance, 4, 5)
            moves = plain_shares.open_moves(machine, program)
            if 0 < len(moves) <= 12 and plain.may_go_on(program) and plain.beginning(machine, program) in moves:
                answer = share(machine, program)
                if answer == (1, 1) and seen.get(answer, 0) > 20:
                    continue
                seen[answer] = seen.get(answer, 0) + 1
                self.assertEqual(answer, plain_shares.share_in_the_long_run(machine, program), (machine, program))
        self.assertGreater(len(seen), 5)
        self.assertGreater(sum(seen.values()), 60)

    def test_the_best_has_the_share_at_worst_and_others_have_no_more(self):
        chance = plain.chance_of(41)
        seen = {}
        better = 0
        for _ in range(400):
            machine, program = self.some(chance, 5, 10)
            try:
                answer = share(machine, program)
            except (NoWay, TooMany) as error:
                self.assertRaises(error.__class__, kept_best, machine, program)
                continue
            written = kept_best(machine, program)
            self.assertIsNone(plain.fault(machine, program, written), (machine, program))
            self.assertEqual(plain_shares.worst_share(written), answer, (machine, program))
            self.assertIs(answer is None, not plain.may_go_on(program))
            if answer is not None:
                seen[answer] = True
                top, low = plain_shares.worst_share(kept(machine, program))
                self.assertLessEqual(top * answer[1], answer[0] * low)
                better += top * answer[1] < answer[0] * low
        self.assertGreater(len(seen), 10)
        self.assertGreater(better, 5)

    def test_any_that_carries_has_no_more(self):
        chance = plain.chance_of(42)
        met = 0
        for _ in range(4000):
            machine, program = self.some(chance, 4, 4)
            written = plain.with_touches(chance, len(machine[0]), program)
            if plain.may_go_on(program) and carries(machine, program, written):
                met += 1
                top, low = plain_shares.worst_share(written)
                most = share(machine, program)
                self.assertLessEqual(top * most[1], most[0] * low, (machine, program, written))
        self.assertGreater(met, 100)

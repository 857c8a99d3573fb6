import unittest
from unittest import mock

from fademill import writing
from fademill.errors import NoWay, TooMany
from fademill.hurries import fewest_touches, kept_hurried, shortest_rows
from fademill.runs import run_fading, run_lasting
from fademill.universals import hardest
from fademill.walks import carries
from fademill.writing import kept
from tests import junk, plain, plain_hurries

TWO = ((2,), (0,))
# The beginnings of these are the end.
VOID = ((("stop",),), (("go", 0), ("get", 0)), (("go", 1),), (("go", 2), ("get", 0), ("go", 0)))


class Touches(unittest.TestCase):
    def test_the_example(self):
        program = (("say",), ("say",), ("get", 0))
        self.assertEqual([fewest_touches(TWO, program), shortest_rows(TWO, program)], [1, 1])
        written = kept_hurried(TWO, program)
        self.assertTrue(carries(TWO, program, written))
        self.assertEqual(written.count(("touch", 0)), 1)

    def test_a_program_that_needs_no_touch(self):
        for program in VOID + ((("say",),), (("get", 0), ("say",), ("get", 0)), (("set", 0),) * 20,
                               (("say",), ("say",), ("say",), ("set", 0), ("get", 0))):
            self.assertEqual(fewest_touches(TWO, program), 0)
            written = kept_hurried(TWO, program)
            self.assertNotIn("touch", [line[0] for line in written])
            self.assertTrue(carries(TWO, program, written))

    def test_the_course_with_the_most_counts(self):
        # One way has three ticks without a touch, the other none.
        program = (("zero", 5), ("say",), ("say",), ("say",), ("say",), ("get", 0))
        self.assertEqual(fewest_touches(TWO, program), 4)
        self.assertEqual(fewest_touches(((3,), (0,)), program), 2)
        self.assertEqual(fewest_touches(((8,), (0,)), program), 0)
        # Each way has its own: they are not added up.
        program = (("zero", 5), ("say",), ("say",), ("get", 0), ("stop",), ("say",), ("say",), ("say",), ("get", 0))
        self.assertEqual(fewest_touches(TWO, program), 3)

    def test_cells_that_share_a_row_need_one_touch(self):
        program = (("say",), ("say",), ("get", 0), ("get", 1))
        self.assertEqual(fewest_touches(((3, 3), (0, 0)), program), 0)
        self.assertEqual(fewest_touches(((2, 2), (0, 0)), program), 1)
        self.assertEqual(fewest_touches(((4, 3), (0, 1)), program), 1)

    def test_a_touch_too_early_is_one_too_many(self):
        # What has the shortest rows does here more touches than it need.
        machine = ((2, 3, 2), (0, 1, 1))
        program = (("zero", 2), ("set", 2), ("zero", 4), ("say",), ("set", 0), ("get", 1))
        self.assertEqual(fewest_touches(machine, program), 1)
        self.assertEqual(plain_hurries.touches_at_most(kept_hurried(machine, program))[0], 1)

    def test_gos_that_come_to_no_other_instruction_are_an_end(self):
        program = (("say",), ("say",), ("zero", 5), ("get", 0), ("go", 4), ("go", 6), ("go", 5))
        self.assertEqual(fewest_touches(TWO, program), 2)
        self.assertTrue(carries(TWO, program, kept_hurried(TWO, program)))

    def test_no_way_if_a_course_goes_on_for_ever(self):
        for call in (fewest_touches, kept_hurried):
            for program in ((("say",), ("go", 0)), (("get", 0), ("zero", 0)), (("zero", 3), ("say",), ("stop",), ("zero", 3))):
                self.assertRaises(NoWay, call, TWO, program)

    def test_no_way_if_it_cannot_be_kept(self):
        for call in (fewest_touches, kept_hurried, shortest_rows):
            self.assertRaises(NoWay, call, ((1,), (0,)), (("say",), ("get", 0)))
            self.assertRaises(NoWay, call, ((1,), (0,)), (("zero", 3), ("get", 0), ("stop",), ("say",), ("get", 0)))
            self.assertRaises(NoWay, call, ((2, 2), (0, 1)), hardest(((2, 2), (0, 1))))

    def test_just_as_long_as_may_be(self):
        program = (("say",), ("say",), ("get", 0))
        many = len(kept_hurried(TWO, program))
        with mock.patch.object(writing, "MOST_KEPT", many):
            self.assertEqual(len(kept_hurried(TWO, program)), many)
        with mock.patch.object(writing, "MOST_KEPT", many - 1):
            with self.assertRaises(TooMany) as caught:
                kept_hurried(TWO, program)
            self.assertEqual(fewest_touches(TWO, program), 1)
        self.assertEqual(caught.exception.most, many - 1)
        self.assertEqual(writing.MOST_KEPT, 4000)

    def test_more_than_a_thousand_moments_will_do(self):
        machine, program = junk.FULL_ENDING
        program = program + junk.ONE_MORE
        written = kept_hurried(machine, program)
        self.assertTrue(carries(machine, program, written))
        self.assertEqual(plain_hurries.touches_at_most(written)[0], fewest_touches(machine, program))
        self.assertLessEqual(shortest_rows(machine, program), fewest_touches(machine, program))

    def test_too_many_moments(self):
        for call in (fewest_touches, kept_hurried, shortest_rows):
            with self.assertRaises(TooMany) as caught:
                call(*junk.TOO_WIDE)
            self.assertEqual(caught.exception.most, 20000)

    def test_no_way_comes_ahead_of_too_many(self):
        machine = junk.TOO_WIDE[0]
        program = (("say",),) * 15 + tuple(("get", cell) for cell in range(4)) + (("go", 0),)
        for call in (fewest_touches, kept_hurried):
            self.assertRaises(NoWay, call, machine, program)
            self.assertRaises(NoWay, call, *junk.DOOMED_AND_WIDE)
        self.assertRaises(TooMany, shortest_rows, machine, program)
        self.assertRaises(NoWay, shortest_rows, *junk.DOOMED_AND_WIDE)

    def test_wrong_values(self):
        for call in (fewest_touches, kept_hurried, shortest_rows):
            junk.refuses_machines(self, lambda machine: call(machine, None))
            junk.refuses_programs(self, lambda program: call(junk.MACHINE, program))


class Rows(unittest.TestCase):
    def test_how_long_rows_must_be(self):
        for machine, program, told in (
                (TWO, (("get", 0), ("go", 0)), 0),
                (TWO, (("zero", 0), ("get", 0)), 1),
                (((4, 3, 3), (0, 0, 1)), (("zero", 0), ("get", 2), ("get", 1)), 2),
                (((2, 4), (0, 1)), (("get", 0), ("zero", 2), ("zero", 0), ("get", 1)), 3),
                (((2, 4), (0, 1)), hardest(((2, 4), (0, 1))), 3),
                (((8, 8), (0, 1)), hardest(((8, 8), (0, 1))), 1)):
            self.assertEqual(shortest_rows(machine, program), told, (machine, program))

    def test_a_program_that_begins_at_its_end(self):
        for program in VOID:
            self.assertEqual(shortest_rows(TWO, program), 0)

    def test_few_touches_and_short_rows_are_not_the_same(self):
        machine = ((4, 5, 5), (0, 0, 1))
        program = (("say",), ("say",), ("say",), ("say",), ("get", 2), ("get", 1))
        self.assertEqual((fewest_touches(machine, program), shortest_rows(machine, program)), (2, 1))

    def test_the_longest_rows_of_four_cells(self):
        # Of the 32 deeds of a ring, but 5 for each 27 are no touches.
        machine = ((3, 6, 7, 8), (0, 1, 2, 3))
        most = shortest_rows(machine, hardest(machine))
        self.assertGreaterEqual(most * 5, 22)
        self.assertGreaterEqual(plain_hurries.touches_at_most(kept(machine, hardest(machine)))[1], most)


class AgainstTheWords(unittest.TestCase):
    def some(self, chance, most_cells, most_fade, most):
        machine = plain.some_machine(chance, most_cells, most_fade)
        words = ("get", "plus", "set", "say", "say", "zero", "zero", "go")
        return machine, plain.some_program(chance, len(machine[0]), most, words)

    def ahead(self, chance, program):
        """The program with all that it goes to lying ahead of it, so that all courses end."""
        end = len(program)
        return tuple((line[0], chance.randint(at + 1, end)) if line[0] in ("zero", "go") else line
                     for at, line in enumerate(program))

    def test_fewest_touches(self):
        chance = plain.chance_of(110)
        seen = {}
        for _ in range(900):
            machine, program = self.some(chance, 3, 5, 9)
            program = self.ahead(chance, program)
            wanted = plain_hurries.fewest_touches(machine, program)
            seen[wanted] = seen.get(wanted, 0) + 1
            if wanted == plain_hurries.NEVER:
                self.assertRaises(NoWay, fewest_touches, machine, program)
                self.assertRaises(NoWay, kept_hurried, machine, program)
                continue
            self.assertEqual(fewest_touches(machine, program), wanted, (machine, program))
            written = kept_hurried(machine, program)
            self.assertIsNone(plain.fault(machine, program, written), (machine, program, written))
            self.assertEqual(plain_hurries.touches_at_most(written)[0], wanted, (machine, program, written))
            self.assertGreaterEqual(plain_hurries.touches_at_most(kept(machine, program))[0], wanted)
            self.assertEqual(run_fading(machine, written, (0, 1, 0), 20000)[0],
                             run_lasting(len(machine[0]), program, (0, 1, 0), 20000)[0])
        self.assertGreater(len(seen), 6)
        self.assertGreater(seen[plain_hurries.NEVER], 20)

    def test_any_program(self):
        chance = plain.chance_of(111)
        counts = {}
        for _ in range(500):
            machine, program = self.some(chance, 3, 4, 6)
            able = plain.beginning(machine, program) not in plain.ranks(machine, program)[0]
            counts[able, plain.may_go_on(program)] = True
            if not able or plain.may_go_on(program):
                self.assertRaises(NoWay, fewest_touches, machine, program)
                self.assertRaises(NoWay, kept_hurried, machine, program)
            else:
                self.assertEqual(fewest_touches(machine, program), plain_hurries.fewest_touches(machine, program))
        self.assertEqual(len(counts), 4)

    def test_large_ones(self):
        chance = plain.chance_of(112)
        longest = 0
        for _ in range(60):
            machine = tuple(chance.randint(3, 8) for _ in range(4)), (0, 1, 2, 3)
            words = ("get", "set", "say", "zero", "zero", "zero")
            program = self.ahead(chance, plain.some_program(chance, 4, 20, words))
            try:
                written = kept_hurried(machine, program)
            except (NoWay, TooMany):
                continue
            longest = max(longest, len(written))
            self.assertTrue(carries(machine, program, written), (machine, program))
            self.assertEqual(plain_hurries.touches_at_most(written)[0], fewest_touches(machine, program))
        self.assertGreater(longest, 40)

    def test_any_that_carries_does_no_fewer(self):
        chance = plain.chance_of(113)
        met = {}
        for _ in range(6000):
            machine, program = self.some(chance, 2, 4, 6)
            written = plain.with_touches(chance, len(machine[0]), program)
            if carries(machine, program, written):
                through, row = plain_hurries.touches_at_most(written)
                rows = shortest_rows(machine, program)
                self.assertGreaterEqual(row, rows, (machine, program, written))
                if not plain.may_go_on(program):
                    self.assertGreaterEqual(through, fewest_touches(machine, program), (machine, program, written))
                met[rows] = met.get(rows, 0) + 1
        self.assertGreater(met[1], 100)

    def test_shortest_rows(self):
        chance = plain.chance_of(114)
        seen = {}
        for _ in range(700):
            machine, program = self.some(chance, 3, 4, 6)
            try:
                answer = shortest_rows(machine, program)
            except NoWay:
                answer = None
            seen[answer] = True
            self.assertEqual(answer, plain_hurries.shortest_rows(machine, program), (machine, program))
        self.assertGreater(len(seen), 3)

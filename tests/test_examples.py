"""The examples that stand in the document under the modules that have landed."""

import unittest

from fademill.books import can_be_kept, rank
from fademill.errors import BadMachine
from fademill.machines import behind_set, behind_touch, behind_wait
from fademill.needs import needed
from fademill.runs import run_fading, run_lasting
from fademill.walks import carries, fault


class Examples(unittest.TestCase):
    def test_machines(self):
        machine = ((3, 2, 4), (0, 1, 0))
        self.assertEqual([behind_touch(machine, (2, 2, 0), 0), behind_set(machine, (2, 2, 0), 2),
                          behind_wait(machine, (1, 0, 4))], [(3, 1, 0), (3, 1, 4), (0, 0, 3)])
        with self.assertRaises(BadMachine) as caught:
            behind_wait(((0,), (0,)), (0,))
        self.assertEqual(caught.exception.part, "fades")

    def test_runs(self):
        program = (("ask",), ("set", 0), ("say",), ("get", 0), ("say",))
        self.assertEqual([run_lasting(1, program, (7,), 9), run_fading(((2,), (0,)), program, (7,), 9),
                          run_fading(((1,), (0,)), program, (7,), 9)],
                         [((7, 7), "stopped", 5), ((7, 7), "stopped", 5), ((7,), "lost", 3)])

    def test_needs(self):
        program = (("get", 0), ("set", 1), ("plus", 1), ("zero", 0), ("minus", 2))
        self.assertEqual(needed(3, program, 1), (0, 2))

    def test_walks(self):
        program = (("say",), ("say",), ("get", 0))
        kept = (("say",), ("touch", 0), ("say",), ("get", 0))
        self.assertEqual([fault(((2,), (0,)), program, program), carries(((2,), (0,)), program, kept)],
                         [("lost", (0, 1, 2)), True])

    def test_books(self):
        two = (("get", 0), ("get", 1), ("go", 0))
        self.assertEqual([can_be_kept(((2, 2), (0, 1)), two), can_be_kept(((1, 2), (0, 1)), two),
                          rank(((1, 2), (0, 1)), two)], [True, False, 2])

"""Of each function: which error each argument has, the leftmost first, TooMany behind all others."""

import copy
import unittest

from fademill import errors
from fademill.books import can_be_kept, moments, rank
from fademill.machines import behind_set, behind_touch, behind_wait
from fademill.needs import needed
from fademill.programs import may_go_on, reached
from fademill.runs import run_fading, run_lasting
from fademill.walks import carries, fault
from tests import junk

MACHINE = (junk.MACHINE, errors.BadMachine)
LIVES = ((1, 2), errors.BadLives)
CELL = (1, errors.BadCell)
CELLS = (2, errors.BadNumber)
PROGRAM = (junk.PROGRAM, errors.BadProgram)
KEPT = ((("touch", 1),) + junk.PROGRAM, errors.BadProgram)
INPUTS = ((4, -4), errors.BadInputs)
NUMBER = (2, errors.BadNumber)

FUNCTIONS = (
    (behind_touch, (MACHINE, LIVES, CELL)),
    (behind_set, (MACHINE, LIVES, CELL)),
    (behind_wait, (MACHINE, LIVES)),
    (reached, (CELLS, PROGRAM)),
    (may_go_on, (CELLS, PROGRAM)),
    (needed, (CELLS, PROGRAM, NUMBER)),
    (run_lasting, (CELLS, PROGRAM, INPUTS, NUMBER)),
    (run_fading, (MACHINE, KEPT, INPUTS, NUMBER)),
    (fault, (MACHINE, PROGRAM, KEPT)),
    (carries, (MACHINE, PROGRAM, KEPT)),
    (rank, (MACHINE, PROGRAM)),
    (moments, (MACHINE, PROGRAM)),
    (can_be_kept, (MACHINE, PROGRAM)),
)
NEVER_GOOD = tuple(value for value in junk.VALUES if value not in ((), (1, 2, 3)))


class Arguments(unittest.TestCase):
    def test_good_ones_raise_nothing(self):
        for function, arguments in FUNCTIONS:
            good = [value for value, _ in arguments]
            self.assertEqual(function(*good), function(*copy.deepcopy(good)), function.__name__)

    def test_each_has_its_error_and_the_leftmost_is_raised(self):
        for function, arguments in FUNCTIONS:
            for at, (_, wanted) in enumerate(arguments):
                good = [value for value, _ in arguments[:at]]
                for value in NEVER_GOOD:
                    for rest in ([value] * (len(arguments) - at - 1), [good for good, _ in arguments[at + 1:]]):
                        passed = good + [value] + rest
                        before = copy.deepcopy(passed)
                        with self.assertRaises(errors.MillError, msg=(function.__name__, passed)) as caught:
                            function(*passed)
                        self.assertIs(caught.exception.__class__, wanted, (function.__name__, passed))
                        self.assertEqual(passed, before)

    def test_true_and_false_are_no_integers(self):
        wrong = ((((True, 3), (0, 1)), "fades"), (((2, 3), (False, 1)), "rows"), (((2, 3), (0, True)), "rows"))
        for function, arguments in FUNCTIONS:
            good = [value for value, _ in arguments]
            for at, (value, wanted) in enumerate(arguments):
                if isinstance(value, int):
                    for truth in (True, False):
                        self.assertRaises(wanted, function, *good[:at], truth, *good[at + 1:])
            if good[0] == junk.MACHINE:
                for machine, part in wrong:
                    with self.assertRaises(errors.BadMachine) as caught:
                        function(machine, *good[1:])
                    self.assertEqual(caught.exception.part, part)

    def test_too_many_comes_behind_all_others(self):
        machine = ((8, 8, 8, 8), (0, 1, 2, 3))
        program = (("say",),) * 16 + tuple(("get", cell) for cell in range(4))
        for function in (rank, moments, can_be_kept):
            self.assertRaises(errors.TooMany, function, machine, program)
            self.assertRaises(errors.BadProgram, function, machine, program[:-1] + (("get", 4),))
            self.assertRaises(errors.BadMachine, function, (machine[0], (0, 1, 2)), program)

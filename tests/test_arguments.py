"""Of each function: which error each argument has, the leftmost first, TooMany behind all others."""

import copy
import unittest

from fademill import errors
from fademill.benches import Mill
from fademill.books import can_be_kept, moments, rank
from fademill.desks import Desk
from fademill.dooms import doom, shows_doom
from fademill.fadings import joined, least_fades
from fademill.hurries import fewest_touches, kept_hurried, shortest_rows
from fademill.keepers import at_full_speed, keepers_needed
from fademill.machines import behind_set, behind_touch, behind_wait
from fademill.milltexts import read_machine, read_program, write_machine, write_program
from fademill.needs import needed
from fademill.orders import best_order, called, orders_kept
from fademill.papers import share_paper, shows_share
from fademill.pauses import longest_pause, lost_by
from fademill.programs import may_go_on, reached
from fademill.rounds import endless, keeps, load, longest
from fademill.runs import run_fading, run_lasting
from fademill.sessions import Session, first_unlike, read_session
from fademill.shares import kept_best, share
from fademill.universals import hardest, keeps_all, least_share
from fademill.walks import carries, fault
from fademill.writing import kept
from tests import junk, test_form


class TextError:
    """In the place of an error: a text's is BadString, or BadLine for a string."""


def mill_made(machine):
    mill = Mill(machine)
    return mill.tick, mill.fresh, mill.held


def mill_read(cell):
    return Mill(junk.MACHINE).read(cell)


def mill_write(cell, value):
    return Mill(junk.MACHINE).write(cell, value)


def mill_touch(cell):
    return Mill(junk.MACHINE).touch(cell)


def desk_take_machine(text):
    return Desk().take_machine(text)


def desk_take_program(text):
    desk = Desk()
    desk.take_machine("cell 2 0\ncell 3 1")
    return desk.take_program(text)


def session_made(text):
    session = Session(text)
    return session.log, session.text()


MACHINE = (junk.MACHINE, errors.BadMachine)
LIVES = ((1, 2), errors.BadLives)
CELL = (1, errors.BadCell)
CELLS = (2, errors.BadNumber)
PROGRAM = (junk.PROGRAM, errors.BadProgram)
KEPT = ((("touch", 1),) + junk.PROGRAM, errors.BadProgram)
INPUTS = ((4, -4), errors.BadInputs)
NUMBER = (2, errors.BadNumber)
LOT = ((0, 1), errors.BadCell)
ORDER = ((1, 0), errors.BadOrder)
ROWS = ((0, 1), errors.BadCell)
MACHINE_TEXT = ("cell 2 0\n\n cell 3 1", TextError)
PROGRAM_TEXT = ("say\n\n get 1", TextError)
SESSION_TEXT = ("| cell 2 0\n> tick\n< 0", TextError)
# Any value will do, and none raises an error.
ANY = ((0, 1), None)

FUNCTIONS = (
    (behind_touch, (MACHINE, LIVES, CELL)),
    (behind_set, (MACHINE, LIVES, CELL)),
    (behind_wait, (MACHINE, LIVES)),
    (reached, (CELLS, PROGRAM)),
    (may_go_on, (CELLS, PROGRAM)),
    (needed, (CELLS, PROGRAM, NUMBER)),
    (run_lasting, (CELLS, PROGRAM, INPUTS, NUMBER)),
    (run_fading, (MACHINE, KEPT, INPUTS, NUMBER)),
    (fault, (MACHINE, PROGRAM, KEPT)),
    (carries, (MACHINE, PROGRAM, KEPT)),
    (rank, (MACHINE, PROGRAM)),
    (moments, (MACHINE, PROGRAM)),
    (can_be_kept, (MACHINE, PROGRAM)),
    (kept, (MACHINE, PROGRAM)),
    (doom, (MACHINE, PROGRAM)),
    (shows_doom, (MACHINE, PROGRAM, ANY)),
    (share, (MACHINE, PROGRAM)),
    (kept_best, (MACHINE, PROGRAM)),
    (share_paper, (MACHINE, PROGRAM)),
    (shows_share, (MACHINE, PROGRAM, ANY)),
    (endless, (MACHINE, LOT)),
    (keeps, (MACHINE, LOT, ANY, ANY)),
    (longest, (MACHINE, LOT)),
    (load, (MACHINE, LOT)),
    (lost_by, (MACHINE, PROGRAM, KEPT, NUMBER)),
    (longest_pause, (MACHINE, PROGRAM, KEPT)),
    (called, (MACHINE, PROGRAM, ORDER)),
    (orders_kept, (MACHINE, PROGRAM)),
    (best_order, (MACHINE, PROGRAM)),
    (keeps_all, (MACHINE,)),
    (least_share, (MACHINE,)),
    (hardest, (MACHINE,)),
    (least_fades, (ROWS, PROGRAM)),
    (joined, (ROWS, CELL, CELL)),
    (fewest_touches, (MACHINE, PROGRAM)),
    (kept_hurried, (MACHINE, PROGRAM)),
    (shortest_rows, (MACHINE, PROGRAM)),
    (at_full_speed, (MACHINE, PROGRAM, NUMBER)),
    (keepers_needed, (MACHINE, PROGRAM)),
    (write_machine, (MACHINE,)),
    (read_machine, (MACHINE_TEXT,)),
    (write_program, (CELLS, KEPT)),
    (read_program, (CELLS, PROGRAM_TEXT)),
    (mill_made, (MACHINE,)),
    (mill_read, (CELL,)),
    (mill_write, (CELL, NUMBER)),
    (mill_touch, (CELL,)),
    (desk_take_machine, (MACHINE_TEXT,)),
    (desk_take_program, (PROGRAM_TEXT,)),
    (session_made, (MACHINE_TEXT,)),
    (read_session, (SESSION_TEXT,)),
    (first_unlike, (SESSION_TEXT,)),
)
OF_BOOKS = (rank, moments, can_be_kept, kept, doom, shows_doom, share, kept_best, share_paper, shows_share, orders_kept,
            best_order, fewest_touches, kept_hurried, shortest_rows)
NEVER_GOOD = tuple(value for value in junk.VALUES if value not in ((), (1, 2, 3)))


def error_of(wanted, value):
    """The error that a value has in the place of an argument."""
    if wanted is TextError:
        return errors.BadLine if isinstance(value, str) else errors.BadString
    return wanted


class Arguments(unittest.TestCase):
    def test_each_function_of_the_interface_is_here(self):
        names = {function.__name__ for function, _ in FUNCTIONS}
        self.assertLessEqual({name for listed in test_form.FUNCTIONS.values() for name in listed}, names)

    def test_good_ones_raise_nothing(self):
        for function, arguments in FUNCTIONS:
            good = [value for value, _ in arguments]
            self.assertEqual(function(*good), function(*copy.deepcopy(good)), function.__name__)

    def test_each_has_its_error_and_the_leftmost_is_raised(self):
        for function, arguments in FUNCTIONS:
            for at, (_, wanted) in enumerate(arguments):
                good = [value for value, _ in arguments[:at]]
                for value in NEVER_GOOD:
                    if wanted is errors.BadNumber and function is mill_write and value.__class__ is int:
                        # Any integer can be written.
                        continue
                    for rest in ([value] * (len(arguments) - at - 1), [good for good, _ in arguments[at + 1:]]):
                        passed = good + [value] + rest
                        before = copy.deepcopy(passed)
                        if wanted is None:
                            self.assertIs(function(*passed).__class__, bool)
                            self.assertEqual(passed, before)
                            continue
                        with self.assertRaises(errors.MillError, msg=(function.__name__, passed)) as caught:
                            function(*passed)
                        self.assertIs(caught.exception.__class__, error_of(wanted, value), (function.__name__, passed))
                        self.assertEqual(passed, before)

    def test_true_and_false_are_no_integers(self):
        wrong = ((((True, 3), (0, 1)), "fades"), (((2, 3), (False, 1)), "rows"), (((2, 3), (0, True)), "rows"))
        for function, arguments in FUNCTIONS:
            good = [value for value, _ in arguments]
            for at, (value, wanted) in enumerate(arguments):
                if isinstance(value, int):
                    for truth in (True, False):
                        self.assertRaises(wanted, function, *good[:at], truth, *good[at + 1:])
            if arguments[0][1] is errors.BadMachine:
                for machine, part in wrong:
                    with self.assertRaises(errors.BadMachine) as caught:
                        function(machine, *good[1:])
                    self.assertEqual(caught.exception.part, part)

    def test_too_many_comes_behind_all_others(self):
        machine, program = junk.TOO_WIDE
        for function in OF_BOOKS:
            rest = [None] if function in (shows_doom, shows_share) else []
            self.assertRaises(errors.TooMany, function, machine, program, *rest)
            self.assertRaises(errors.BadProgram, function, machine, program[:-1] + (("get", 4),), *rest)
            self.assertRaises(errors.BadMachine, function, (machine[0], (0, 1, 2)), program, *rest)

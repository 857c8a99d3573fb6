"""The examples that stand in the document's interface."""

import unittest

from fademill.benches import Mill
from fademill.books import can_be_kept, rank
from fademill.desks import Desk
from fademill.errors import BadLine, BadMachine, NoWay
from fademill.fadings import joined, least_fades
from fademill.hurries import fewest_touches, shortest_rows
from fademill.keepers import at_full_speed, keepers_needed
from fademill.machines import behind_set, behind_touch, behind_wait
from fademill.milltexts import read_machine, write_program
from fademill.needs import needed
from fademill.orders import best_order
from fademill.pauses import longest_pause, lost_by
from fademill.rounds import endless, load, longest
from fademill.runs import run_fading, run_lasting
from fademill.sessions import Session, first_unlike
from fademill.shares import share
from fademill.universals import hardest, keeps_all, least_share
from fademill.walks import carries, fault
from fademill.writing import kept


class Examples(unittest.TestCase):
    def test_machines(self):
        machine = ((3, 2, 4), (0, 1, 0))
        self.assertEqual([behind_touch(machine, (2, 2, 0), 0), behind_set(machine, (2, 2, 0), 2),
                          behind_wait(machine, (1, 0, 4))], [(3, 1, 0), (3, 1, 4), (0, 0, 3)])
        with self.assertRaises(BadMachine) as caught:
            behind_wait(((0,), (0,)), (0,))
        self.assertEqual(caught.exception.part, "fades")

    def test_runs(self):
        program = (("ask",), ("set", 0), ("say",), ("get", 0), ("say",))
        self.assertEqual([run_lasting(1, program, (7,), 9), run_fading(((2,), (0,)), program, (7,), 9),
                          run_fading(((1,), (0,)), program, (7,), 9)],
                         [((7, 7), "stopped", 5), ((7, 7), "stopped", 5), ((7,), "lost", 3)])

    def test_needs(self):
        program = (("get", 0), ("set", 1), ("plus", 1), ("zero", 0), ("minus", 2))
        self.assertEqual(needed(3, program, 1), (0, 2))

    def test_walks(self):
        program = (("say",), ("say",), ("get", 0))
        kept = (("say",), ("touch", 0), ("say",), ("get", 0))
        self.assertEqual([fault(((2,), (0,)), program, program), carries(((2,), (0,)), program, kept)],
                         [("lost", (0, 1, 2)), True])

    def test_books(self):
        two = (("get", 0), ("get", 1), ("go", 0))
        self.assertEqual([can_be_kept(((2, 2), (0, 1)), two), can_be_kept(((1, 2), (0, 1)), two),
                          rank(((1, 2), (0, 1)), two)], [True, False, 2])

    def test_writing(self):
        self.assertRaises(NoWay, kept, ((1,), (0,)), (("say",), ("say",), ("get", 0)))

    def test_shares(self):
        self.assertEqual([share(((3,), (0,)), (("say",), ("zero", 0), ("get", 0), ("go", 0))),
                          share(((2, 2), (0, 1)), (("get", 0), ("get", 1), ("go", 0))), share(((1,), (0,)), (("get", 0),))],
                         [(2, 3), (1, 1), None])

    def test_rounds(self):
        self.assertEqual([endless(((2, 4), (0, 1)), (0, 1))[2], longest(((1, 3), (0, 1)), (0, 1)),
                          load(((2, 4), (0, 1)), (0, 1))], [(1, 4), (2, (0, 0)), (3, 4)])

    def test_pauses(self):
        program = (("say",), ("get", 0))
        self.assertEqual([longest_pause(((4,), (0,)), program, program), lost_by(((4,), (0,)), program, program, 3)],
                         [2, (0, 1)])

    def test_orders(self):
        self.assertEqual(best_order(((1, 4), (0, 1)), (("get", 0), ("say",), ("go", 0))), ((1, 0), (1, 1)))

    def test_universals(self):
        self.assertEqual([keeps_all(((2, 2), (0, 1))), least_share(((2, 4), (0, 1))), hardest(((2,), (0,)))],
                         [False, (1, 4), (("say",), ("ask",), ("zero", 0), ("get", 0))])

    def test_fadings(self):
        self.assertEqual([least_fades((0, 1), (("say",), ("get", 0), ("get", 1))), joined((0, 1, 2), 2, 0)],
                         [((2, 3), (3, 2)), (0, 1, 0)])

    def test_hurries(self):
        program = (("say",), ("say",), ("get", 0))
        self.assertEqual([fewest_touches(((2,), (0,)), program), shortest_rows(((2,), (0,)), program)], [1, 1])

    def test_keepers(self):
        program = (("say",), ("say",), ("get", 0), ("go", 0))
        self.assertEqual([at_full_speed(((1,), (0,)), program, 0), keepers_needed(((1,), (0,)), program)], [False, 1])

    def test_milltexts(self):
        self.assertEqual([read_machine("cell 3 0\ncell 2 1"), write_program(1, (("touch", 0), ("zero", 0)))],
                         [((3, 2), (0, 1)), "touch 0\nzero 0"])
        with self.assertRaises(BadLine) as caught:
            read_machine("cell 9 0")
        self.assertEqual((caught.exception.line, caught.exception.place), (1, 2))

    def test_benches(self):
        mill = Mill(((1, 3), (0, 1)))
        mill.write(1, 5)
        self.assertEqual([mill.read(0), mill.fresh, mill.held, mill.tick], [None, (0, 2), (None, 5), 2])

    def test_desks(self):
        desk = Desk()
        desk.take_machine("cell 3 0")
        desk.take_program("say\nzero 0\nget 0\ngo 0")
        self.assertEqual([desk.say(line) for line in ["keep", "share", "rank", "spare", "lives", "sing"]],
                         ["yes", "2 of 3", "-", "2 of 3", "3", "what"])

    def test_sessions(self):
        session = Session("cell 3 0")
        answers = [session.say("program say:zero 0:get 0"), session.say("keep")]
        self.assertEqual([answers, session.text(), first_unlike("| cell 3 0\n> tick\n< 5")],
                         [["taken", "yes"], "| cell 3 0\n> program say:zero 0:get 0\n< taken\n> keep\n< yes", 0])

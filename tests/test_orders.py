import itertools
import unittest

from fademill.books import can_be_kept
from fademill.errors import BadOrder, NoWay, TooMany
from fademill.orders import best_order, called, orders_kept
from fademill.shares import share
from tests import junk, plain, plain_cells

BAD_ORDERS = ((), (0,), (0, 0), (1, 1), (0, 2), (-1, 0), (0, 1, 2), (0, True), (False, 1), [0, 1], "01", ("0", "1"), None, 0, {0: 1},
              {0: 1, 1: 0}, ((0,), (1,)), (None, None), True, (0, [1]), ({}, 0), (10 ** 20, 0))


class Called(unittest.TestCase):
    def test_cells_alone_are_called_otherwise(self):
        machine = ((2, 3, 4), (0, 1, 1))
        program = (("get", 0), ("plus", 1), ("minus", 2), ("set", 0), ("put", 1), ("zero", 0), ("go", 2), ("say",), ("ask",),
                   ("stop",))
        self.assertEqual(called(machine, program, (2, 0, 1)),
                         (("get", 2), ("plus", 0), ("minus", 1), ("set", 2)) + program[4:])
        self.assertEqual(called(machine, program, (0, 1, 2)), program)

    def test_one_cell(self):
        self.assertEqual(called(((2,), (0,)), (("get", 0),), (0,)), (("get", 0),))
        self.assertEqual(orders_kept(((2,), (0,)), (("get", 0),)), ((0,),))
        self.assertEqual(best_order(((2,), (0,)), (("get", 0), ("go", 0))), ((0,), (1, 1)))

    def test_no_order(self):
        for order in BAD_ORDERS:
            self.assertRaises(BadOrder, called, junk.MACHINE, junk.PROGRAM, order)
        for order in junk.VALUES:
            self.assertRaises(BadOrder, called, ((2,), (0,)), (("get", 0),), order)


class Orders(unittest.TestCase):
    def test_the_example(self):
        self.assertEqual(best_order(((1, 4), (0, 1)), (("get", 0), ("say",), ("go", 0))), ((1, 0), (1, 1)))

    def test_orders_by_which_it_cannot_be_kept(self):
        machine, program = ((1, 4), (0, 1)), (("say",), ("get", 0))
        self.assertEqual(orders_kept(machine, program), ((1, 0),))
        self.assertEqual(orders_kept(((4, 4), (0, 1)), program), ((0, 1), (1, 0)))
        self.assertEqual(orders_kept(((1, 1), (0, 1)), program), ())

    def test_rows_go_with_their_cells(self):
        program = (("say",), ("get", 0), ("get", 1), ("set", 2))
        self.assertEqual(orders_kept(((2, 2, 2), (0, 1, 0)), program), ((0, 2, 1), (2, 0, 1)))

    def test_no_way(self):
        for program in ((("say",), ("get", 0)), (("say",), ("get", 0), ("go", 0))):
            self.assertRaises(NoWay, best_order, ((1, 1), (0, 1)), program)

    def test_no_course_goes_on_for_ever(self):
        self.assertEqual(best_order(((1, 4), (0, 1)), (("say",), ("get", 0))), ((1, 0), None))
        self.assertEqual(best_order(((4, 4), (0, 1)), (("say",), ("get", 0))), ((0, 1), None))
        self.assertEqual(best_order(((4, 4), (0, 1)), (("stop",),)), ((0, 1), None))

    def test_the_first_with_the_greatest_share(self):
        program = (("say",), ("zero", 0), ("get", 0), ("go", 0))
        self.assertEqual(best_order(((3, 3), (0, 1)), program), ((0, 1), (2, 3)))
        self.assertEqual(best_order(((3, 4, 4), (0, 1, 2)), program), ((1, 0, 2), (3, 4)))
        self.assertEqual(best_order(((4, 3, 8), (0, 1, 2)), program), ((2, 0, 1), (7, 8)))

    def test_too_many(self):
        for call in (orders_kept, best_order):
            with self.assertRaises(TooMany) as caught:
                call(*junk.TOO_WIDE)
            self.assertEqual(caught.exception.most, 20000)
        machine, program = junk.FULL_ENDLESS
        with self.assertRaises(TooMany) as caught:
            best_order(machine, program + junk.ONE_MORE)
        self.assertEqual(caught.exception.most, 1000)
        # The share is not asked for if all courses end.
        machine, program = junk.FULL_ENDING
        self.assertEqual(best_order(machine, program + junk.ONE_MORE), ((0, 1, 2, 3), None))

    def test_wrong_values(self):
        calls = (orders_kept, best_order, lambda machine, program: called(machine, program, None))
        for call in calls:
            junk.refuses_machines(self, lambda machine: call(machine, None))
            junk.refuses_programs(self, lambda program: call(junk.MACHINE, program))


class AgainstTheWords(unittest.TestCase):
    def test_each_order_called(self):
        chance = plain.chance_of(80)
        numbers = {}
        for _ in range(200):
            machine = plain.some_machine(chance, 4, 4)
            cells = len(machine[0])
            words = ("get", "plus", "set", "say", "zero", "go")
            program = plain.some_program(chance, cells, 6, words) + (("go", 0),)
            orders = list(itertools.permutations(range(cells)))
            for order in orders:
                self.assertEqual(called(machine, program, order), plain_cells.called(program, order))
            able = [order for order in orders if can_be_kept(machine, plain_cells.called(program, order))]
            numbers[len(able)] = True
            self.assertEqual(orders_kept(machine, program), tuple(able))
            if not able:
                self.assertRaises(NoWay, best_order, machine, program)
            elif not plain.may_go_on(program):
                self.assertEqual(best_order(machine, program), (able[0], None))
            else:
                shares = [share(machine, plain_cells.called(program, order)) for order in able]
                most = max(shares, key=lambda ratio: ratio[0] / ratio[1])
                self.assertEqual(best_order(machine, program), (able[shares.index(most)], most))
        self.assertGreater(len(numbers), 8)

"""Orders: which of a machine's cells stand for which of a program's."""

from itertools import permutations

from fademill.books import can_be_kept
from fademill.checks import WITH_CELL, check_machine, check_order, check_program
from fademill.errors import NoWay
from fademill.machines import renumbered
from fademill.programs import may_go_on
from fademill.shares import share


def called(machine, program, order):
    """The program whose cells 0, 1 and so on are those of an order."""
    check_machine(machine)
    check_program(len(machine[0]), program)
    check_order(machine, order)
    return tuple([(line[0], order[line[1]]) if line[0] in WITH_CELL else line for line in program])


def machine_called(machine, order):
    """The machine on which a program does what it does, called by an order, on another."""
    fades, rows = machine
    return (tuple([fades[cell] for cell in order]), renumbered([rows[cell] for cell in order]))


def orders_kept(machine, program):
    """The ascending tuple of the orders by which a program can be kept."""
    check_machine(machine)
    check_program(len(machine[0]), program)
    known = {}
    found = []
    for order in permutations(range(len(machine[0]))):
        other = machine_called(machine, order)
        if other not in known:
            known[other] = can_be_kept(other, program)
        if known[other]:
            found.append(order)
    return tuple(found)


def is_greater(ratio, other):
    return ratio[0] * other[1] > other[0] * ratio[1]


def best_order(machine, program):
    """The first of the orders with the greatest share, and this share."""
    orders = orders_kept(machine, program)
    if not orders:
        raise NoWay("it can be kept by no order")
    if not may_go_on(len(machine[0]), program):
        return (orders[0], None)
    known = {}
    best = None
    for order in orders:
        other = machine_called(machine, order)
        if other not in known:
            known[other] = share(other, program)
            if best is None or is_greater(known[other], best[1]):
                best = (order, known[other])
    return best

"""All programs: whether a machine keeps every one, with which share, and the program that asks the most of it."""

from fademill.checks import check_machine
from fademill.machines import all_cells
from fademill.rounds import endless


def keeps_all(machine):
    """Whether every program can be kept on a machine."""
    return least_share(machine) is not None


def least_share(machine):
    """The least of the shares of all programs, None if some program cannot be kept."""
    check_machine(machine)
    found = endless(machine, all_cells(machine))
    # Without a wait among the ring a program gets no tick of its own.
    return None if found is None or found[2][0] == 0 else found[2]


def hardest(machine):
    """The program that can be kept only if all can, and then has the least share."""
    check_machine(machine)
    reads = [("get", cell) for cell in all_cells(machine)]
    return (("say",), ("ask",), ("zero", 0), *reads)

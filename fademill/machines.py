"""The machine: what each deed makes of the lives of its cells.

The functions whose names begin with lives take values that are as they must be.
"""

from fademill.checks import check_cell, check_lives, check_machine


def lives_waited(lives):
    return tuple([life - 1 if life > 0 else 0 for life in lives])


def lives_touched(machine, lives, cell):
    fades, rows = machine
    row = rows[cell]
    behind = []
    for at, life in enumerate(lives):
        if life == 0:
            behind.append(0)
        elif rows[at] == row:
            behind.append(fades[at])
        else:
            behind.append(life - 1)
    return tuple(behind)


def lives_set(machine, lives, cell):
    behind = list(lives_touched(machine, lives, cell))
    behind[cell] = machine[0][cell]
    return tuple(behind)


def all_cells(machine):
    return tuple(range(len(machine[0])))


def first_cells(machine):
    """The first cell of each row: a touch of it stands for a touch of any cell of the row."""
    rows = machine[1]
    return tuple([rows.index(row) for row in range(max(rows) + 1)])


def are_nowhere_more(lives, others):
    """Whether each of some lives, or of some fades, is at most that of the same cell among others."""
    return all([life <= other for life, other in zip(lives, others)])


def renumbered(rows):
    """Rows numbered anew, as cells name them first."""
    numbers = {}
    for row in rows:
        numbers.setdefault(row, len(numbers))
    return tuple([numbers[row] for row in rows])


def behind_touch(machine, lives, cell):
    """The lives at the next tick if a cell is touched."""
    check_machine(machine)
    check_lives(machine, lives)
    check_cell(machine, cell)
    return lives_touched(machine, lives, cell)


def behind_set(machine, lives, cell):
    """The lives at the next tick if a cell is set."""
    check_machine(machine)
    check_lives(machine, lives)
    check_cell(machine, cell)
    return lives_set(machine, lives, cell)


def behind_wait(machine, lives):
    """The lives at the next tick if no cell is touched."""
    check_machine(machine)
    check_lives(machine, lives)
    return lives_waited(lives)

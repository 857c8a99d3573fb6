"""What a program needs of the fades, and rows that are made one."""

from fademill.books import can_be_kept
from fademill.checks import MOST_FADE, check_cell_of, check_program, check_rows_alone
from fademill.machines import are_nowhere_more, renumbered


def all_fades(cells):
    """All fades of so many cells, ascending."""
    found = [()]
    for _ in range(cells):
        found = [fades + (fade,) for fades in found for fade in range(1, MOST_FADE + 1)]
    return found


def least_fades(rows, program):
    """The ascending tuple of the fades with which a program can be kept, but with none of which a fade is less."""
    check_rows_alone(rows)
    check_program(len(rows), program)
    found = []
    for fades in all_fades(len(rows)):
        # Greater fades never harm, and those that are nowhere more come first: what is left need not be asked for.
        if not any([are_nowhere_more(other, fades) for other in found]) and can_be_kept((fades, rows), program):
            found.append(fades)
    return tuple(found)


def joined(rows, one, other):
    """Rows with those of two cells made one."""
    check_rows_alone(rows)
    check_cell_of(len(rows), one)
    check_cell_of(len(rows), other)
    return renumbered([rows[one] if row == rows[other] else row for row in rows])

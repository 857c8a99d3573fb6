"""The cells that a program needs."""

from fademill.checks import check_cells, check_number, check_program
from fademill.programs import READS, branches, places_of


def readers(program, places, cell):
    """The instructions from which some course reads a cell before it sets it."""
    found = {}
    growing = True
    while growing:
        growing = False
        # Backward, for a course is then mostly followed in one go.
        for at in reversed(range(len(program))):
            if places[at] == at and at not in found and asks_for(program, places, found, at, cell):
                found[at] = True
                growing = True
    return found


def asks_for(program, places, found, at, cell):
    """Whether an instruction reads a cell, or lets it be and may lead to one that is found."""
    instruction = program[at]
    if len(instruction) == 2 and instruction[1] == cell:
        if instruction[0] in READS:
            return True
        if instruction[0] == "set":
            return False
    return any([place in found for place in branches(program, places, at)])


def marks_of(cells, program):
    """For each index, and for the end, a tuple of whether each cell is needed from there."""
    places = places_of(program)
    found = [readers(program, places, cell) for cell in range(cells)]
    return tuple([tuple([place in of_cell for of_cell in found]) for place in places])


def lives_told(lives, marks):
    """The lives of a moment: those of cells that are not needed are told as 0."""
    return tuple([life if mark else 0 for life, mark in zip(lives, marks)])


def needed(cells, program, index):
    """The cells that some course from an index reads before it sets them."""
    check_cells(cells)
    check_program(cells, program)
    check_number(index, 0, len(program))
    marks = marks_of(cells, program)[index]
    return tuple([cell for cell in range(cells) if marks[cell]])

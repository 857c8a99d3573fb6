"""What arguments must be: each check raises the error that the document names."""

from fademill.errors import BadCell, BadInputs, BadLives, BadMachine, BadNumber, BadOrder, BadProgram, BadString

MOST_CELLS = 4
MOST_CELLS_OF_ROWS = 3
MOST_FADE = 8
MOST_INSTRUCTIONS = 20
MOST_KEPT = 4000
MOST_INPUTS = 50
MOST_DEEDS = 400
MOST_HANDS = 4
MILLION = 1000000
ALONE = ("say", "ask", "stop")
WITH_CELL = ("get", "plus", "minus", "set")
WITH_PLACE = ("zero", "go")


def is_whole(value):
    """Whether a value is an integer; True and False are none."""
    return isinstance(value, int) and not isinstance(value, bool)


def is_integer(value, low, high):
    """Whether a value is an integer between two limits."""
    return is_whole(value) and low <= value <= high


def check_whole(value):
    if not is_whole(value):
        raise BadNumber("no integer")


def check_number(value, low, high):
    if not is_integer(value, low, high):
        raise BadNumber(f"no integer from {low} to {high}")


def check_cells(value):
    check_number(value, 1, MOST_CELLS)


def are_fades(value):
    if not isinstance(value, tuple) or not 1 <= len(value) <= MOST_CELLS:
        return False
    return all([is_integer(fade, 1, MOST_FADE) for fade in value])


def are_rows(value):
    """Whether a value is a tuple of rows, numbered as cells name them first."""
    if not isinstance(value, tuple):
        return False
    named = 0
    for row in value:
        if not is_integer(row, 0, named):
            return False
        if row == named:
            named += 1
    return True


def check_machine(value):
    if not isinstance(value, tuple) or len(value) != 2:
        raise BadMachine("machine")
    fades, rows = value
    if not are_fades(fades):
        raise BadMachine("fades")
    if not are_rows(rows) or len(rows) != len(fades):
        raise BadMachine("rows")


def check_lives(machine, value):
    fades = machine[0]
    if not isinstance(value, tuple) or len(value) != len(fades):
        raise BadLives("not as many lives as cells")
    for life, fade in zip(value, fades):
        if not is_integer(life, 0, fade):
            raise BadLives("a life that is none")


def check_cell_of(cells, value):
    if not is_integer(value, 0, cells - 1):
        raise BadCell(f"no cell of {cells}")


def check_cell(machine, value):
    check_cell_of(len(machine[0]), value)


def check_rows_alone(value):
    """Rows that stand without fades are those of fewer cells than a machine may have."""
    if not are_rows(value) or not 1 <= len(value) <= MOST_CELLS_OF_ROWS:
        raise BadCell("no rows of so few cells")


def check_lot(machine, value):
    """A lot is an ascending tuple of at least one cell."""
    if not isinstance(value, tuple) or value == ():
        raise BadCell("no tuple of cells")
    before = -1
    for cell in value:
        check_cell(machine, cell)
        if cell <= before:
            raise BadCell("not ascending")
        before = cell


def check_order(machine, value):
    cells = len(machine[0])
    if not isinstance(value, tuple) or len(value) != cells:
        raise BadOrder("not as many as cells")
    if not all([is_integer(cell, 0, cells - 1) for cell in value]):
        raise BadOrder("no cell of the machine")
    if sorted(value) != list(range(cells)):
        raise BadOrder("a cell twice")


def is_instruction(cells, length, value):
    """Whether a value is an instruction of a program of so many cells and instructions."""
    if not isinstance(value, tuple) or len(value) not in (1, 2):
        return False
    word = value[0]
    if len(value) == 1:
        return word in ALONE
    if word in WITH_CELL:
        return is_integer(value[1], 0, cells - 1)
    if word in WITH_PLACE:
        return is_integer(value[1], 0, length)
    return word == "put" and is_integer(value[1], -MILLION, MILLION)


def is_touch(cells, value):
    if not isinstance(value, tuple) or len(value) != 2:
        return False
    return value[0] == "touch" and is_integer(value[1], 0, cells - 1)


def check_length(value, most):
    if not isinstance(value, tuple) or not 1 <= len(value) <= most:
        raise BadProgram(None)


def check_program(cells, value):
    check_length(value, MOST_INSTRUCTIONS)
    for index, instruction in enumerate(value):
        if not is_instruction(cells, len(value), instruction):
            raise BadProgram(index)


def check_kept(cells, value):
    check_length(value, MOST_KEPT)
    for index, instruction in enumerate(value):
        if not is_instruction(cells, len(value), instruction) and not is_touch(cells, instruction):
            raise BadProgram(index)


def check_inputs(value):
    if not isinstance(value, tuple) or len(value) > MOST_INPUTS:
        raise BadInputs("no tuple of so few")
    if not all([is_integer(number, -MILLION, MILLION) for number in value]):
        raise BadInputs("an input that is none")


def check_string(value):
    if not isinstance(value, str):
        raise BadString("no string")

"""Runs of programs: on cells that last, and of kept programs on a machine."""

from fademill.checks import check_cells, check_inputs, check_kept, check_machine, check_number, check_program
from fademill.programs import lives_behind, places_of

MOST_TICKS = 20000


class Run:
    """A program at work: its place, its hand, and what its cells hold if none is lost."""

    def __init__(self, cells, program, inputs):
        self.program = program
        self.places = places_of(program)
        self.at = self.places[0]
        self.hand = 0
        self.contents = [0] * cells
        self.inputs = inputs
        self.asked = 0
        self.said = []

    def is_over(self):
        return self.at == len(self.program)

    def instruction(self):
        return self.program[self.at]

    def act(self):
        """Does the instruction at which the program stands."""
        instruction = self.instruction()
        target = self.at + 1
        if len(instruction) == 1:
            self.say_or_ask(instruction[0])
        elif instruction[0] == "put":
            self.hand = instruction[1]
        elif instruction[0] == "zero":
            if self.hand == 0:
                target = instruction[1]
        else:
            self.act_on_cell(instruction[0], instruction[1])
        self.at = self.places[target]

    def say_or_ask(self, word):
        if word == "say":
            self.said.append(self.hand)
        elif self.asked < len(self.inputs):
            self.hand = self.inputs[self.asked]
            self.asked += 1
        else:
            self.hand = 0

    def act_on_cell(self, word, cell):
        if word == "get":
            self.hand = self.contents[cell]
        elif word == "plus":
            self.hand += self.contents[cell]
        elif word == "minus":
            self.hand -= self.contents[cell]
        elif word == "set":
            self.contents[cell] = self.hand


def told(run, ticks):
    """What a run that was not lost comes to."""
    return (tuple(run.said), "stopped" if run.is_over() else "running", ticks)


def run_lasting(cells, program, inputs, most):
    """What a program says on cells that last, how it ends, and in how many ticks."""
    check_cells(cells)
    check_program(cells, program)
    check_inputs(inputs)
    check_number(most, 0, MOST_TICKS)
    run = Run(cells, program, inputs)
    ticks = 0
    while ticks < most and not run.is_over():
        run.act()
        ticks += 1
    return told(run, ticks)


def run_fading(machine, program, inputs, most):
    """What a kept program says on a machine, how it ends, and in how many ticks."""
    check_machine(machine)
    cells = len(machine[0])
    check_kept(cells, program)
    check_inputs(inputs)
    check_number(most, 0, MOST_TICKS)
    run = Run(cells, program, inputs)
    lives = machine[0]
    ticks = 0
    while ticks < most and not run.is_over():
        lives = lives_behind(machine, lives, run.instruction())
        if lives is None:
            return (tuple(run.said), "lost", ticks)
        run.act()
        ticks += 1
    return told(run, ticks)

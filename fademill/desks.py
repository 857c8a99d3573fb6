"""A desk: lines of words about a machine at work and its program are answered by lines of words."""

from fademill.benches import Mill
from fademill.books import can_be_kept, rank
from fademill.checks import MILLION, check_program, check_string
from fademill.errors import NoWay
from fademill.machines import all_cells
from fademill.milltexts import LINE_END, number_told, read_machine, read_program, words_of, write_program
from fademill.needs import needed
from fademill.rounds import endless
from fademill.shares import share
from fademill.writing import kept

# How many words stand behind the first word of a line: of one about the machine, of one about the program.
OF_MACHINE = {"read": 1, "write": 2, "touch": 1, "wait": 0, "tick": 0, "lives": 0, "held": 0, "spare": 0}
OF_PROGRAM = {"keep": 0, "rank": 0, "needed": 1, "share": 0, "kept": 0}
DASH = "-"
NO_WAY = "no way"
NO_MACHINE = "no machine"


def is_known(words):
    """Whether words are a line that can be answered, the kinds of the words behind the first one left aside."""
    if not words:
        return False
    word = words[0]
    many = OF_PROGRAM[word] if word in OF_PROGRAM else OF_MACHINE.get(word)
    return many == len(words) - 1


def told(value):
    return DASH if value is None else str(value)


def told_all(values):
    return " ".join([told(value) for value in values]) if values else DASH


def told_ratio(ratio):
    return f"{ratio[0]} of {ratio[1]}"


def told_spare(machine):
    found = endless(machine, all_cells(machine))
    return NO_WAY if found is None else told_ratio(found[2])


def told_share(machine, program):
    try:
        ratio = share(machine, program)
    except NoWay:
        return NO_WAY
    return DASH if ratio is None else told_ratio(ratio)


def told_kept(machine, program):
    try:
        written = kept(machine, program)
    except NoWay:
        return NO_WAY
    return "; ".join(write_program(len(machine[0]), written).split(LINE_END))


class Desk:
    """A desk at which a machine and a program may be taken and asked about."""

    def __init__(self):
        self.machine = None
        self.mill = None
        self.program = None

    def take_machine(self, text):
        """Takes the machine of a text, at tick 0, and no program."""
        machine = read_machine(text)
        self.machine = machine
        self.mill = Mill(machine)
        self.program = None

    def take_program(self, text):
        """Takes the program of a text for the machine, and answers that it is taken."""
        check_string(text)
        if self.machine is None:
            return NO_MACHINE
        cells = len(self.machine[0])
        program = read_program(cells, text)
        check_program(cells, program)
        self.program = program
        return "taken"

    def say(self, line):
        """The answer to a line."""
        words = words_of(line) if isinstance(line, str) else []
        if not is_known(words):
            return "what"
        if self.machine is None:
            return NO_MACHINE
        if words[0] in OF_PROGRAM and self.program is None:
            return "no program"
        numbers = self.numbers_of(words)
        if None in numbers:
            return "no such number"
        if words[0] in OF_PROGRAM:
            return self.say_of_program(words[0], numbers)
        return self.say_of_machine(words[0], numbers)

    def numbers_of(self, words):
        """The numbers behind the first word, None for each that is none as it must be."""
        last = len(self.program) if words[0] == "needed" else len(self.machine[0]) - 1
        limits = [(0, last), (-MILLION, MILLION)]
        return [number_told(word, low, high) for word, (low, high) in zip(words[1:], limits)]

    def say_of_machine(self, word, numbers):
        if word == "tick":
            return told(self.mill.tick)
        if word == "lives":
            return told_all(self.mill.fresh)
        if word == "held":
            return told_all(self.mill.held)
        if word == "spare":
            return told_spare(self.machine)
        if word == "read":
            return told(self.mill.read(numbers[0]))
        if word == "write":
            self.mill.write(numbers[0], numbers[1])
        elif word == "touch":
            self.mill.touch(numbers[0])
        else:
            self.mill.wait()
        return "done"

    def say_of_program(self, word, numbers):
        if word == "keep":
            return "yes" if can_be_kept(self.machine, self.program) else "no"
        if word == "rank":
            return told(rank(self.machine, self.program))
        if word == "needed":
            return told_all(needed(len(self.machine[0]), self.program, numbers[0]))
        if word == "share":
            return told_share(self.machine, self.program)
        return told_kept(self.machine, self.program)

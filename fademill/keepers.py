"""Keepers: hands that touch rows while a program does an instruction in each tick."""

from itertools import combinations

from fademill.checks import MOST_HANDS, check_machine, check_number, check_program
from fademill.machines import are_nowhere_more
from fademill.programs import READS, branches, places_of


def choices_of(rows, hands):
    """All ways in which each of so many hands touches a row of its own."""
    return list(combinations(range(rows), hands))


def higher_of(lives, others):
    """For each cell the higher one of two lives."""
    return tuple([max(life, other) for life, other in zip(lives, others)])


def least_of(many):
    """The ascending list of those of some lives that no others will do in the place of."""
    found = []
    # Ascending, those that are nowhere more come first.
    for lives in sorted(many):
        if not any([are_nowhere_more(other, lives) for other in found]):
            found.append(lives)
    return found


class Keeping:
    """What lives a program needs at each place, so many keepers being at work.

    asked tells for each place the least lives with which the program can go on, an
    instruction in each tick; with lives that are nowhere less it can as well.
    """

    def __init__(self, machine, program, hands):
        self.machine = machine
        self.program = program
        self.places = places_of(program)
        rows = max(machine[1]) + 1
        # A touch never harms: hands are not idle while rows are left.
        self.choices = choices_of(rows, min(hands, rows))
        self.asked = [[(0,) * len(machine[0])] for _ in range(len(program) + 1)]

    def touched_row(self, at):
        """The row that the instruction itself touches, None if it touches none."""
        instruction = self.program[at]
        if instruction[0] in READS or instruction[0] == "set":
            return self.machine[1][instruction[1]]
        return None

    def life_ahead(self, at, touched, cell, life):
        """The least life of a cell ahead of an instruction that leaves it one so great, rows being touched."""
        word = self.program[at][0]
        own = len(self.program[at]) == 2 and self.program[at][1] == cell
        if own and word in READS:
            return 1
        if life == 0 or (own and word == "set"):
            return 0
        return 1 if self.machine[1][cell] in touched else life + 1

    def lives_ahead(self, at, rows, lives):
        touched = (*rows, self.touched_row(at))
        return tuple([self.life_ahead(at, touched, cell, life) for cell, life in enumerate(lives)])

    def asked_ahead(self, at):
        """What is asked for ahead of an instruction, whichever way it leads."""
        wanted = self.asked[len(self.program)]
        for place in branches(self.program, self.places, at):
            wanted = least_of([higher_of(lives, others) for lives in wanted for others in self.asked[place]])
        ahead = [self.lives_ahead(at, rows, lives) for lives in wanted for rows in self.choices]
        return least_of([lives for lives in ahead if are_nowhere_more(lives, self.machine[0])])

    def ask_all(self):
        """Asks for more till nothing more has to be asked for."""
        changed = True
        while changed:
            changed = False
            for at in reversed(range(len(self.program))):
                asked = self.asked_ahead(at) if self.places[at] == at else self.asked[at]
                if asked != self.asked[at]:
                    self.asked[at] = asked
                    changed = True

    def will_do(self):
        """Whether the lives at first are enough."""
        return self.asked[self.places[0]] != []


def is_full_speed(machine, program, hands):
    keeping = Keeping(machine, program, hands)
    keeping.ask_all()
    return keeping.will_do()


def at_full_speed(machine, program, hands):
    """Whether so many keepers can let a program do an instruction in each tick without a loss."""
    check_machine(machine)
    check_program(len(machine[0]), program)
    check_number(hands, 0, MOST_HANDS)
    return is_full_speed(machine, program, hands)


def keepers_needed(machine, program):
    """The fewest keepers that can, None if not even one for each row can."""
    check_machine(machine)
    check_program(len(machine[0]), program)
    for hands in range(max(machine[1]) + 2):
        if is_full_speed(machine, program, hands):
            return hands
    return None

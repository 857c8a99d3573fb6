"""A machine at work."""

from fademill.checks import check_cell, check_machine, check_whole
from fademill.machines import lives_set, lives_touched, lives_waited


class Mill:
    """A machine at work, a tick for each deed; at first all its cells are 0 and fresh."""

    def __init__(self, machine):
        check_machine(machine)
        self.machine = machine
        self.lives = machine[0]
        self.contents = [0] * len(machine[0])
        self.ticks = 0

    @property
    def tick(self):
        """How many ticks have gone by."""
        return self.ticks

    @property
    def fresh(self):
        """The lives of the cells."""
        return self.lives

    @property
    def held(self):
        """What the cells hold, None for lost ones."""
        return tuple([number if life > 0 else None for number, life in zip(self.contents, self.lives)])

    def go_on(self, lives):
        """Comes to the next tick with these lives."""
        self.lives = lives
        self.ticks += 1

    def read(self, cell):
        """What a cell holds, None for a lost one; it is touched."""
        check_cell(self.machine, cell)
        number = self.held[cell]
        self.go_on(lives_touched(self.machine, self.lives, cell))
        return number

    def write(self, cell, value):
        """Sets a cell to an integer."""
        check_cell(self.machine, cell)
        check_whole(value)
        self.contents[cell] = value
        self.go_on(lives_set(self.machine, self.lives, cell))

    def touch(self, cell):
        """Makes fresh what is alive of the row of a cell."""
        check_cell(self.machine, cell)
        self.go_on(lives_touched(self.machine, self.lives, cell))

    def wait(self):
        """Lets a tick go by."""
        self.go_on(lives_waited(self.lives))

"""The book of a program on a machine: its moments, and which of them are doomed."""

from fademill.checks import check_machine, check_program
from fademill.errors import TooMany
from fademill.machines import first_cells, lives_touched
from fademill.needs import lives_told, marks_of
from fademill.programs import branches, lives_behind, places_of

MOST_MOMENTS = 20000


class Book:
    """The moments that count, numbered as they are found, the beginning with 0.

    touches tells for each moment where the touches of each row lead; steps where the
    instruction may lead, the end left out, None for a loss; ranks the rank, None if the
    moment is not doomed. A program that begins at the end has no moments.
    """

    def __init__(self, machine, program):
        self.machine = machine
        self.program = program
        self.places = places_of(program)
        self.marks = marks_of(len(machine[0]), program)
        self.moments = []
        self.numbers = {}
        self.touches = []
        self.steps = []
        self.ranks = []

    def number_of(self, place, lives):
        """The number of a moment, a new one if it was not found before."""
        moment = (place, lives_told(lives, self.marks[place]))
        if moment not in self.numbers:
            if len(self.moments) == MOST_MOMENTS:
                raise TooMany(MOST_MOMENTS)
            self.numbers[moment] = len(self.moments)
            self.moments.append(moment)
        return self.numbers[moment]

    def find_moments(self):
        end = len(self.program)
        if self.places[0] != end:
            self.number_of(self.places[0], self.machine[0])
        cells = first_cells(self.machine)
        while len(self.steps) < len(self.moments):
            at, lives = self.moments[len(self.steps)]
            self.touches.append(tuple([self.number_of(at, lives_touched(self.machine, lives, cell))
                                       for cell in cells]))
            behind = lives_behind(self.machine, lives, self.program[at])
            if behind is None:
                self.steps.append(None)
            else:
                self.steps.append(tuple([self.number_of(place, behind)
                                         for place in branches(self.program, self.places, at)
                                         if place != end]))


def reversed_links(links):
    """For each number those that lead to it."""
    sources = [[] for _ in links]
    for source, targets in enumerate(links):
        if targets is not None:
            for target in targets:
                sources[target].append(source)
    return sources


class Dooming:
    """Finds the ranks of a book, the lowest first.

    safe tells for each moment whether its instruction is no loss and leads to no moment
    that was found doomed. Touches stay at one instruction, so only the moments of
    instructions at which something became unsafe are looked at again. most is how many
    touches may be done ahead of an instruction, None if any number may.
    """

    def __init__(self, book, most):
        self.most = most
        self.ranks = [None] * len(book.moments)
        self.safe = [targets is not None for targets in book.steps]
        self.before_touches = reversed_links(book.touches)
        self.before_steps = reversed_links(book.steps)
        self.spots = [at for at, lives in book.moments]
        self.by_spot = {}
        for number, at in enumerate(self.spots):
            self.by_spot.setdefault(at, []).append(number)

    def hopeful_ones(self, at):
        """The moments of an instruction from which touches, no more than may be done, lead to a safe one."""
        hopeful = {number: True for number in self.by_spot[at] if self.safe[number]}
        layer = list(hopeful)
        length = 0
        while layer and length != self.most:
            following = []
            for number in layer:
                for source in self.before_touches[number]:
                    if source not in hopeful:
                        hopeful[source] = True
                        following.append(source)
            layer = following
            length += 1
        return hopeful

    def fallen(self, at):
        """The moments of an instruction, not yet doomed, from which no such touches lead to a safe one."""
        hopeful = self.hopeful_ones(at)
        doomed = [number for number in self.by_spot[at] if number not in hopeful]
        # What is left out here need never be looked at again.
        self.by_spot[at] = [number for number in self.by_spot[at] if number in hopeful]
        return doomed

    def stir(self, doomed):
        """The instructions of moments that are no longer safe because of newly doomed ones."""
        stirred = {}
        for number in doomed:
            for source in self.before_steps[number]:
                if self.safe[source]:
                    self.safe[source] = False
                    stirred[self.spots[source]] = True
        return stirred

    def find_ranks(self):
        least = 0
        stirred = {at: True for at in self.by_spot}
        while stirred:
            doomed = []
            for at in stirred:
                doomed.extend(self.fallen(at))
            for number in doomed:
                self.ranks[number] = least
            stirred = self.stir(doomed)
            least += 1
        return self.ranks


def book_of(machine, program):
    """The whole book of a program on a machine, both as they must be."""
    book = Book(machine, program)
    book.find_moments()
    book.ranks = Dooming(book, None).find_ranks()
    return book


def checked_book(machine, program):
    check_machine(machine)
    check_program(len(machine[0]), program)
    return book_of(machine, program)


def rank(machine, program):
    """The rank of the beginning, None if it is not doomed."""
    book = checked_book(machine, program)
    return book.ranks[0] if book.moments else None


def moments(machine, program):
    """How many moments count, and how many of them are doomed."""
    book = checked_book(machine, program)
    doomed = [number for number in book.ranks if number is not None]
    return (len(book.moments), len(doomed))


def can_be_kept(machine, program):
    """Whether some kept program carries a program on a machine."""
    return rank(machine, program) is None

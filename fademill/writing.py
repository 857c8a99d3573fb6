"""Kept programs, written out from what is to be done at each moment that isn't doomed."""

from fademill.books import checked_book, reversed_links
from fademill.checks import MOST_KEPT
from fademill.errors import NoWay, TooMany
from fademill.machines import are_nowhere_more, first_cells
from fademill.programs import branches, lives_behind

# The move that is the instruction; the touch of a row is told by the row's number.
STEP = -1


def open_book(machine, program):
    """The book of a program that can be kept."""
    book = checked_book(machine, program)
    if book.moments and book.ranks[0] is not None:
        raise NoWay("the beginning is doomed")
    return book


def open_numbers(book):
    """The numbers of the moments that aren't doomed."""
    return [number for number, rank in enumerate(book.ranks) if rank is None]


def moves_of(book, number):
    """The moves of a moment that isn't doomed: pairs of the move and where it may lead, the end left out."""
    found = []
    targets = book.steps[number]
    if targets is not None and all([book.ranks[target] is None for target in targets]):
        found.append((STEP, targets))
    for row, target in enumerate(book.touches[number]):
        if book.ranks[target] is None:
            found.append((row, (target,)))
    return found


def shortest_moves(book):
    """For each moment that isn't doomed the move that begins a shortest row of touches ahead of a step.

    And by moment how many touches the row has.
    """
    moves = {number: STEP for number in open_numbers(book) if moves_of(book, number)[0][0] == STEP}
    lengths = {number: 0 for number in moves}
    sources = reversed_links(book.touches)
    layer = list(moves)
    while layer:
        following = []
        for number in layer:
            for source in sources[number]:
                if source not in moves:
                    moves[source] = book.touches[source].index(number)
                    lengths[source] = lengths[number] + 1
                    following.append(source)
        layer = following
    return (moves, lengths)


class Writer:
    """Writes a kept program, a line for the move of each moment that it comes to.

    heights tell of each moment what the moves from it on may cost: a touch costs top of the
    ratio, a step brings low less top, and what is left allows the height of what comes next.
    What is done from one moment on will also do from another at the same instruction whose
    lives are nowhere less; its line is gone to if what is left allows its height as well.
    """

    def __init__(self, book, moves, heights, ratio):
        self.book = book
        self.moves = moves
        self.heights = heights
        self.top, self.low = ratio
        self.cells = first_cells(book.machine)
        self.lines = []
        self.starts = {}
        self.by_spot = {}
        # Triples (line, moment to go to or None for the end, what is left there).
        self.jumps = []
        self.open_ones = []

    def left(self, number):
        """What is left of the height of a moment behind its move."""
        gain = self.low if self.moves[number] == STEP else 0
        return self.heights[number] - self.top + gain

    def server(self, number, left):
        """A moment with a line that will do from a moment on, None if there is none yet."""
        if number in self.starts:
            return number
        at, lives = self.book.moments[number]
        for other in self.by_spot.get(at, []):
            if self.heights[other] <= left and are_nowhere_more(self.book.moments[other][1], lives):
                return other
        return None

    def behind_step(self, number):
        """Where the instruction may lead, None for the end."""
        book = self.book
        at, lives = book.moments[number]
        behind = lives_behind(book.machine, lives, book.program[at])
        places = branches(book.program, book.places, at)
        return [None if place == len(book.program) else book.number_of(place, behind) for place in places]

    def add_line(self, number):
        """Writes the line of a moment, and tells the moment that comes next, None for the end."""
        self.starts[number] = len(self.lines)
        at = self.book.moments[number][0]
        self.by_spot.setdefault(at, []).append(number)
        move = self.moves[number]
        if move != STEP:
            self.lines.append(("touch", self.cells[move]))
            return self.book.touches[number][move]
        followers = self.behind_step(number)
        if len(followers) == 2:
            self.add_jump("zero", followers[0], self.left(number))
        else:
            self.lines.append(self.book.program[at])
        return followers[-1]

    def add_jump(self, word, number, left):
        self.jumps.append((len(self.lines), number, left))
        self.lines.append((word, 0))
        if number is not None:
            self.open_ones.append((number, left))

    def write_from(self, number):
        """Writes on from a moment, till what comes next is the end or has its line."""
        while number is not None:
            following = self.add_line(number)
            left = self.left(number)
            if following is None:
                self.lines.append(("stop",))
                number = None
            elif self.server(following, left) is not None:
                self.add_jump("go", following, left)
                number = None
            else:
                number = following

    def whole(self):
        """The whole kept program."""
        if not self.book.moments:
            return (("stop",),)
        self.write_from(0)
        while self.open_ones:
            number, left = self.open_ones.pop()
            if self.server(number, left) is None:
                self.write_from(number)
        for line, number, left in self.jumps:
            target = len(self.lines) if number is None else self.starts[self.server(number, left)]
            self.lines[line] = (self.lines[line][0], target)
        if len(self.lines) > MOST_KEPT:
            raise TooMany(MOST_KEPT)
        return tuple(self.lines)


def write_shortest(book):
    """A kept program that carries, with shortest rows of touches."""
    moves, lengths = shortest_moves(book)
    # A step leaves enough for any row: touches are held to be few, steps are not.
    return Writer(book, moves, lengths, (1, len(book.moments) + 1)).whole()


def kept(machine, program):
    """A kept program that carries a program."""
    return write_shortest(open_book(machine, program))

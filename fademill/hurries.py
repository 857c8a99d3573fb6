"""Hurries: kept programs with few touches, in a whole course or behind one another."""

from fademill.books import Dooming, reversed_links
from fademill.checks import check_machine, check_program
from fademill.errors import NoWay
from fademill.programs import may_go_on
from fademill.writing import STEP, Writer, open_book


class Hurrying:
    """Finds how few touches will do from each moment on, those with the fewest first.

    It is for programs whose courses all end. heights tell the number of touches by moment,
    moves what is to be done there; both leave out what is doomed.
    """

    def __init__(self, book):
        self.touches = book.touches
        self.before_touches = reversed_links(book.touches)
        self.before_steps = reversed_links(book.steps)
        # How many of the moments to which the instruction may lead aren't told yet.
        self.missing = [None if targets is None else len(targets) for targets in book.steps]
        self.heights = {}
        self.moves = {}

    def tell(self, pairs, many):
        """Tells of moments and their moves that so many touches will do, and of all steps that lead to such alone."""
        told = []
        open_ones = list(pairs)
        while open_ones:
            number, move = open_ones.pop()
            if number in self.heights:
                continue
            self.heights[number] = many
            self.moves[number] = move
            told.append(number)
            for source in self.before_steps[number]:
                self.missing[source] -= 1
                if self.missing[source] == 0:
                    open_ones.append((source, STEP))
        return told

    def find_all(self):
        pairs = [(number, STEP) for number, many in enumerate(self.missing) if many == 0]
        many = 0
        while pairs:
            told = self.tell(pairs, many)
            pairs = [(source, self.touches[source].index(number)) for number in told
                     for source in self.before_touches[number] if source not in self.heights]
            many += 1


def hurried_book(machine, program):
    """The book of a program that can be kept and whose courses all end."""
    check_machine(machine)
    check_program(len(machine[0]), program)
    if may_go_on(len(machine[0]), program):
        raise NoWay("a course goes on for ever")
    return open_book(machine, program)


def hurrying_of(book):
    hurrying = Hurrying(book)
    hurrying.find_all()
    return hurrying


def fewest_touches(machine, program):
    """How few touches a kept program that carries does in its course with the most."""
    return hurrying_of(hurried_book(machine, program)).heights.get(0, 0)


def kept_hurried(machine, program):
    """A kept program that carries a program, with so few touches."""
    book = hurried_book(machine, program)
    hurrying = hurrying_of(book)
    # A touch costs one of what is left, a step nothing.
    return Writer(book, hurrying.moves, hurrying.heights, (1, 1)).whole()


def shortest_rows(machine, program):
    """The least number such that no more touches than that need be done behind one another."""
    book = open_book(machine, program)
    most = 0
    while book.moments and Dooming(book, most).find_ranks()[0] is not None:
        most += 1
    return most

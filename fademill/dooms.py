"""Papers that show that a program is doomed."""

from fademill.books import checked_book
from fademill.checks import MILLION, MOST_FADE, MOST_INSTRUCTIONS, is_integer


def is_triple(value):
    """Whether a value has the form of an instruction, lives and a number that is told of them."""
    if not isinstance(value, tuple) or len(value) != 3 or not isinstance(value[1], tuple):
        return False
    if not is_integer(value[0], 0, MOST_INSTRUCTIONS) or not is_integer(value[2], 0, MILLION):
        return False
    return all([is_integer(life, 0, MOST_FADE) for life in value[1]])


def numbers_told(book, value):
    """For each moment of an ascending tuple of triples what is told of it.

    None if the value is no such tuple, if it has a moment twice or one that doesn't count,
    or if the beginning is not among them.
    """
    if not isinstance(value, tuple):
        return None
    told = {}
    before = ()
    for triple in value:
        if not is_triple(triple) or triple[:2] <= before or triple[:2] not in book.numbers:
            return None
        before = triple[:2]
        told[book.numbers[before]] = triple[2]
    return told if 0 in told else None


def triples(book, told):
    """The ascending tuple of what is told of moments by their numbers."""
    return tuple(sorted([book.moments[number] + (told[number],) for number in told]))


def is_doom(book, told, number):
    """Whether touches lead to no greater rank, and the instruction to a loss or a lesser one."""
    rank = told[number]
    for target in book.touches[number]:
        if target not in told or told[target] > rank:
            return False
    targets = book.steps[number]
    return targets is None or any([target in told and told[target] < rank for target in targets])


def doom(machine, program):
    """A paper that shows that a program is doomed, None if it isn't."""
    book = checked_book(machine, program)
    if not book.moments or book.ranks[0] is None:
        return None
    return triples(book, {number: rank for number, rank in enumerate(book.ranks) if rank is not None})


def shows_doom(machine, program, value):
    """Whether a value is a paper that shows that a program is doomed."""
    book = checked_book(machine, program)
    told = numbers_told(book, value)
    return told is not None and all([is_doom(book, told, number) for number in told])

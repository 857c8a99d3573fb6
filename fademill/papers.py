"""Papers that show what the share of a program is."""

from math import gcd

from fademill.checks import MILLION, is_integer
from fademill.dooms import numbers_told, triples
from fademill.programs import may_go_on
from fademill.shares import share_book, sharing_of
from fademill.writing import STEP, moves_of


def is_ratio(value):
    """Whether a value is a ratio from just above 0 to 1 in lowest terms."""
    if not isinstance(value, tuple) or len(value) != 2:
        return False
    top, low = value
    return is_integer(low, 1, MILLION) and is_integer(top, 1, low) and gcd(top, low) == 1


def open_told(book, value):
    """What a value tells of moments by their numbers, None if one of them is doomed or it is no such value."""
    told = numbers_told(book, value)
    if told is None or any([book.ranks[number] is not None for number in told]):
        return None
    return told


def is_height(book, ratio, told, number):
    """Whether some move leads to heights that are low enough.

    A step leaves what is there or more, so that the end's height of 0 is always low enough.
    """
    for move, targets in moves_of(book, number):
        most = told[number] - ratio[0] + (ratio[1] if move == STEP else 0)
        if all([target in told and told[target] <= most for target in targets]):
            return True
    return False


def is_depth(book, ratio, told, number):
    """Whether every move may lead to a depth that is low enough."""
    for move, targets in moves_of(book, number):
        most = told[number] + ratio[0] - (ratio[1] if move == STEP else 0)
        if not any([target in told and told[target] <= most for target in targets]):
            return False
    return True


def share_paper(machine, program):
    """A paper that shows the share of a program, None if no course goes on for ever."""
    book = share_book(machine, program)
    sharing = sharing_of(book)
    if sharing is None:
        return None
    return (sharing.ratio, triples(book, sharing.heights), triples(book, sharing.depths))


def shows_share(machine, program, value):
    """Whether a value is a paper that shows the share of a program."""
    book = share_book(machine, program)
    if not may_go_on(len(machine[0]), program):
        return False
    if not isinstance(value, tuple) or len(value) != 3 or not is_ratio(value[0]):
        return False
    heights = open_told(book, value[1])
    depths = open_told(book, value[2])
    if heights is None or depths is None:
        return False
    return (all([is_height(book, value[0], heights, number) for number in heights])
            and all([is_depth(book, value[0], depths, number) for number in depths]))

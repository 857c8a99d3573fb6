"""The texts of machines and of programs."""

from fademill.checks import (ALONE, MILLION, MOST_CELLS, MOST_FADE, MOST_KEPT, WITH_CELL, WITH_PLACE, check_cells,
                             check_kept, check_machine, check_string)
from fademill.errors import BadLine

LINE_END = "\n"
DIGITS = "0123456789"
# Those of a million: words that are longer are not even turned into numbers.
MOST_DIGITS = 7


def words_of(line):
    """The words of a line, parted by any number of spaces."""
    return [word for word in line.split(" ") if word != ""]


def are_plain_digits(word):
    """Whether a word is digits alone, not too many, without needless zeros."""
    if not 1 <= len(word) <= MOST_DIGITS or not all([sign in DIGITS for sign in word]):
        return False
    return word == "0" or word[0] != "0"


def number_told(word, low, high):
    """The number that a word tells, None if it tells none between two limits."""
    digits = word[1:] if word.startswith("-") else word
    if not are_plain_digits(digits) or word == "-0":
        return None
    number = int(digits) if digits == word else -int(digits)
    return number if low <= number <= high else None


def numbers_behind(line, words, limits):
    """The numbers behind the first word of a line, as many as there are pairs of limits."""
    numbers = []
    for place, (low, high) in enumerate(limits, start=2):
        number = number_told(words[place - 1], low, high) if place <= len(words) else None
        if number is None:
            raise BadLine(line, place)
        numbers.append(number)
    if len(words) > len(limits) + 1:
        raise BadLine(line, len(limits) + 2)
    return tuple(numbers)


def lines_with_words(text):
    """Pairs of the number, from 1, and the words of each line that has any; there must be one."""
    lines = text.split(LINE_END)
    pairs = [(number, words_of(line)) for number, line in enumerate(lines, start=1)]
    found = [(number, words) for number, words in pairs if words]
    if not found:
        raise BadLine(len(lines) + 1, 1)
    return found


def write_machine(machine):
    """The text of a machine."""
    check_machine(machine)
    return LINE_END.join([f"cell {fade} {row}" for fade, row in zip(machine[0], machine[1])])


def read_machine(text):
    """The machine of a text."""
    check_string(text)
    fades = []
    rows = []
    for line, words in lines_with_words(text):
        if words[0] != "cell" or len(fades) == MOST_CELLS:
            raise BadLine(line, 1)
        fade, row = numbers_behind(line, words, ((1, MOST_FADE), (0, len(set(rows)))))
        fades.append(fade)
        rows.append(row)
    return (tuple(fades), tuple(rows))


def write_program(cells, program):
    """The text of a program or a kept program."""
    check_cells(cells)
    check_kept(cells, program)
    return LINE_END.join([" ".join([str(part) for part in instruction]) for instruction in program])


def limits_behind(cells, word):
    """The limits of the numbers behind a word, None if it is no instruction's."""
    if word in ALONE:
        return ()
    if word in WITH_CELL or word == "touch":
        return ((0, cells - 1),)
    if word in WITH_PLACE:
        # How many lines there are, and so what may be gone to, is not known before all are read.
        return ((0, MOST_KEPT),)
    return ((-MILLION, MILLION),) if word == "put" else None


def read_program(cells, text):
    """The program or the kept program of a text."""
    check_cells(cells)
    check_string(text)
    lines = lines_with_words(text)
    program = []
    for line, words in lines:
        limits = limits_behind(cells, words[0])
        if limits is None or len(program) == MOST_KEPT:
            raise BadLine(line, 1)
        program.append((words[0],) + numbers_behind(line, words, limits))
    for (line, _), instruction in zip(lines, program):
        if instruction[0] in WITH_PLACE and instruction[1] > len(program):
            raise BadLine(line, 2)
    return tuple(program)

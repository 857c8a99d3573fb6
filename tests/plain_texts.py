"""The document's words on texts, done again by other means and without the package."""

import re

from tests import plain

# A number without needless zeros, and one that may have a minus.
NUMBER = re.compile(r"0|[1-9][0-9]*")
SIGNED = re.compile(r"0|-?[1-9][0-9]*")


def lines_of(text):
    """Pairs of a line's number and its words, lines of spaces alone left out."""
    return [(at + 1, re.findall(r"[^ ]+", line)) for at, line in enumerate(text.split("\n")) if line.strip(" ")]


def first_wrong(words, asked):
    """The place of the first word that cannot stand; asked tells of each place a test. None if all can."""
    for at, test in enumerate(asked):
        if at == len(words) or not test(words[at]):
            return at + 1
    return len(asked) + 1 if len(words) > len(asked) else None


def between(low, high, form=NUMBER):
    return lambda word: bool(form.fullmatch(word)) and low <= int(word) <= high


def read_machine(text):
    """The machine, or the pair (line, place) of the first word that cannot stand."""
    fades, rows = [], []
    for number, words in lines_of(text):
        if len(fades) == 4:
            return number, 1
        place = first_wrong(words, [lambda word: word == "cell", between(1, 8), between(0, len(set(rows)))])
        if place:
            return number, place
        fades.append(int(words[1]))
        rows.append(int(words[2]))
    return (tuple(fades), tuple(rows)) if fades else (text.count("\n") + 2, 1)


def read_program(cells, text):
    """The program, or the pair (line, place)."""
    numbers = dict.fromkeys(plain.READS + ("set", "touch"), between(0, cells - 1))
    numbers.update(dict.fromkeys(("zero", "go"), between(0, 4000)), put=between(-10 ** 6, 10 ** 6, SIGNED))
    lines = lines_of(text)
    program = []
    for number, words in lines:
        if len(program) == 4000 or words[0] not in (*numbers, "say", "ask", "stop"):
            return number, 1
        place = first_wrong(words, [lambda word: True] + ([numbers[words[0]]] if words[0] in numbers else []))
        if place:
            return number, place
        program.append((words[0], *[int(word) for word in words[1:]]))
    for (number, words), line in zip(lines, program):
        if line[0] in ("zero", "go") and line[1] > len(lines):
            return number, 2
    return tuple(program) or (text.count("\n") + 2, 1)


def spaced(chance, text):
    """A text with spaces and void lines put in."""
    lines = []
    for line in text.split("\n"):
        while chance.random() < 0.3:
            lines.append(" " * chance.randint(0, 2))
        lines.append(" " * chance.choice((0, 0, 3)) + line.replace(" ", " " * chance.choice((1, 1, 4)))
                     + " " * chance.choice((0, 0, 2)))
    return "\n".join(lines + [""] * chance.choice((0, 0, 1, 2)))


def bent(chance, text):
    """A text with a word put in, left out or made another one."""
    lines = [line.split(" ") for line in text.split("\n")]
    words = chance.choice(lines)
    at = chance.randint(0, len(words))
    odd = chance.choice(("0", "1", "2", "8", "9", "00", "01", "-0", "-1", "-01", "--1", "-", "+1", "1.", "1_0", "1000000", "1000001",
                         "-1000000", "-1000001", "4000", "4001", "10" * 40, "x", "cell", "Cell", "get", "say", "touch", "go",
                         "zero", "put", "\t", "0\t", "\u0661", "\u00b2", "\r", "1\r", "\x0b"))
    words[at:at + chance.choice((0, 1, 1, 1))] = chance.choice(([odd], [odd], []))
    return "\n".join(" ".join(words) for words in lines)

"""Sessions: what was said at a desk, kept as a text, and said again."""

from fademill.checks import check_string
from fademill.desks import Desk
from fademill.errors import BadLine, BadString
from fademill.milltexts import LINE_END, read_machine, write_machine

OF_MACHINE = "| "
SAID = "> "
ANSWERED = "< "
PROGRAM = "program "


class Session:
    """A desk with a machine, and what was said to it with its answers."""

    def __init__(self, text):
        self.machine = read_machine(text)
        self.desk = Desk()
        self.desk.take_machine(text)
        self.pairs = []

    @property
    def log(self):
        """The pairs of a line and its answer."""
        return tuple(self.pairs)

    def say(self, line):
        """The answer of the desk to a line, which is kept with it."""
        check_string(line)
        if LINE_END in line:
            raise BadString("more than one line")
        if line.startswith(PROGRAM):
            answer = self.desk.take_program(line[len(PROGRAM):].replace(":", LINE_END))
        else:
            answer = self.desk.say(line)
        self.pairs.append((line, answer))
        return answer

    def text(self):
        """The session as a text."""
        lines = [OF_MACHINE + line for line in write_machine(self.machine).split(LINE_END)]
        for line, answer in self.pairs:
            lines.append(SAID + line)
            lines.append(ANSWERED + answer)
        return LINE_END.join(lines)


def part_of(lines, at, start):
    """What stands in a line behind the start that it must have."""
    if at >= len(lines) or not lines[at].startswith(start):
        raise BadLine(at + 1, 1)
    return lines[at][len(start):]


def read_session(text):
    """The machine of a session's text, and the tuple of its pairs of a line and its answer."""
    check_string(text)
    lines = text.split(LINE_END)
    first = 0
    while first < len(lines) and lines[first].startswith(OF_MACHINE):
        first += 1
    pairs = [(part_of(lines, at, SAID), part_of(lines, at + 1, ANSWERED)) for at in range(first, len(lines), 2)]
    machine = read_machine(LINE_END.join([line[len(OF_MACHINE):] for line in lines[:first]]))
    return (machine, tuple(pairs))


def first_unlike(text):
    """The place of the first pair whose answer is another one when all is said again, None without one."""
    machine, pairs = read_session(text)
    session = Session(write_machine(machine))
    for line, _ in pairs:
        session.say(line)
    for place, (pair, again) in enumerate(zip(pairs, session.log)):
        if pair != again:
            return place
    return None

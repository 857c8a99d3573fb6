"""The errors of the package; all stand under MillError."""


class MillError(ValueError):
    """Any error that the package raises."""


class BadMachine(MillError):
    """What is no machine; part is machine, fades or rows."""

    def __init__(self, part):
        super().__init__(f"not as it must be: {part}")
        self.part = part


class BadProgram(MillError):
    """What is no program; index is that of the first item that is no instruction, or None."""

    def __init__(self, index):
        super().__init__(f"no program: {index}")
        self.index = index


class BadLine(MillError):
    """A text with a word that cannot stand where it does; line and place are counted from 1."""

    def __init__(self, line, place):
        super().__init__(f"line {line}, word {place}")
        self.line = line
        self.place = place


class TooMany(MillError):
    """More than the most that are allowed."""

    def __init__(self, most):
        super().__init__(f"more than {most}")
        self.most = most


class BadInputs(MillError):
    """What are no inputs."""


class BadNumber(MillError):
    """What is no integer between its limits."""


class BadCell(MillError):
    """What is no cell of the machine."""


class BadLives(MillError):
    """What are no lives of the machine's cells."""


class BadOrder(MillError):
    """What is no order of the machine's cells."""


class NoWay(MillError):
    """What is asked for cannot be had."""


class NotCarried(MillError):
    """A kept program that does not carry its program."""


class BadString(MillError):
    """What is no string as it must be."""

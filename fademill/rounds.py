"""Cells alone: deeds, touches and ticks waited, that keep some cells of a machine."""

from fademill.checks import MOST_DEEDS, check_lot, check_machine, is_integer
from fademill.machines import lives_touched, lives_waited
from fademill.shares import Rings, ratio_of


def lives_done(machine, lives, deed):
    """The lives at the next tick if a cell is touched, or if the deed is None and a tick is waited."""
    return lives_waited(lives) if deed is None else lives_touched(machine, lives, deed)


def only_lot(lives, cells):
    """The lives of some cells, those of others told as 0; None if one of these cells is lost."""
    if any([lives[cell] == 0 for cell in cells]):
        return None
    return tuple([life if cell in cells else 0 for cell, life in enumerate(lives)])


class Rounds:
    """The lives to which deeds may lead while none of some cells is lost.

    links tell for each of them the deeds and the lives behind; lengths for each that cannot
    go on for ever how many deeds there are at most.
    """

    def __init__(self, machine, cells):
        self.machine = machine
        self.cells = cells
        self.deeds = self.all_deeds()
        self.start = only_lot(machine[0], cells)
        self.links = {}
        self.lengths = {}

    def all_deeds(self):
        """A tick waited, and the touch of each row that one of the cells has."""
        touches = {}
        for cell in self.cells:
            touches.setdefault(self.machine[1][cell], cell)
        return [None] + list(touches.values())

    def links_from(self, lives):
        pairs = [(deed, only_lot(lives_done(self.machine, lives, deed), self.cells)) for deed in self.deeds]
        return [(deed, behind) for deed, behind in pairs if behind is not None]

    def find_links(self):
        open_ones = [self.start]
        while open_ones:
            lives = open_ones.pop()
            if lives not in self.links:
                self.links[lives] = self.links_from(lives)
                open_ones.extend([behind for deed, behind in self.links[lives]])

    def find_lengths(self):
        """From those behind which there is no deed backward: what is left out can go on for ever."""
        sources = {lives: [] for lives in self.links}
        for lives, pairs in self.links.items():
            for deed, behind in pairs:
                sources[behind].append(lives)
        left = {lives: len(pairs) for lives, pairs in self.links.items()}
        open_ones = [lives for lives, many in left.items() if many == 0]
        while open_ones:
            lives = open_ones.pop()
            self.lengths[lives] = max([self.lengths[behind] + 1 for deed, behind in self.links[lives]], default=0)
            for source in sources[lives]:
                left[source] -= 1
                if left[source] == 0:
                    open_ones.append(source)

    def lasting_links(self):
        """By lives that can go on for ever, the deeds that lead to such."""
        return {lives: [(deed, behind) for deed, behind in pairs if behind not in self.lengths]
                for lives, pairs in self.links.items() if lives not in self.lengths}


def rounds_of(machine, cells):
    check_machine(machine)
    check_lot(machine, cells)
    rounds = Rounds(machine, cells)
    rounds.find_links()
    rounds.find_lengths()
    return rounds


def endless(machine, cells):
    """Deeds that keep cells for ever with the most waits: a lead, a ring, and the share of waits in the ring."""
    rounds = rounds_of(machine, cells)
    if rounds.start in rounds.lengths:
        return None
    links = rounds.lasting_links()
    counted = {lives: [(0 if deed is None else 1, behind) for deed, behind in pairs] for lives, pairs in links.items()}
    (touches, deeds), ring = Rings(counted).least()
    # At first no life could be greater: the ring can be begun at once, wherever it was found.
    return ((), tuple([links[lives][at][0] for lives, at in ring]), ratio_of(deeds - touches, deeds))


def are_deeds(machine, value):
    if not isinstance(value, tuple) or len(value) > MOST_DEEDS:
        return False
    return all([deed is None or is_integer(deed, 0, len(machine[0]) - 1) for deed in value])


def lives_kept(machine, cells, lives, deeds):
    """The lives behind some deeds, None if one of the cells is lost."""
    for deed in deeds:
        lives = lives_done(machine, lives, deed)
        if any([lives[cell] == 0 for cell in cells]):
            return None
    return lives


def keeps(machine, cells, lead, ring):
    """Whether a lead, and a ring again and again, keep cells for ever."""
    check_machine(machine)
    check_lot(machine, cells)
    if not are_deeds(machine, lead) or not are_deeds(machine, ring) or ring == ():
        return False
    met = {}
    lives = lives_kept(machine, cells, machine[0], lead)
    while lives is not None and lives not in met:
        met[lives] = True
        lives = lives_kept(machine, cells, lives, ring)
    return lives is not None


def longest(machine, cells):
    """The most deeds behind which all of some cells are alive; None if they can be kept for ever."""
    rounds = rounds_of(machine, cells)
    if rounds.start not in rounds.lengths:
        return None
    row = []
    lives = rounds.start
    while rounds.links[lives]:
        pairs = rounds.links[lives]
        lengths = [rounds.lengths[behind] for deed, behind in pairs]
        deed, lives = pairs[lengths.index(max(lengths))]
        row.append(deed)
    return (len(row), tuple(row))


def load(machine, cells):
    """The sum of 1 by the fades of some cells, as a ratio in lowest terms."""
    check_machine(machine)
    check_lot(machine, cells)
    top = 0
    low = 1
    for cell in cells:
        fade = machine[0][cell]
        top, low = ratio_of(top * fade + low, low * fade)
    return (top, low)

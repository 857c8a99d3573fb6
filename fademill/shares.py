"""The share of ticks that a program gets at worst, and kept programs that reach it."""

from math import gcd

from fademill.errors import TooMany
from fademill.programs import may_go_on
from fademill.writing import STEP, Writer, moves_of, open_book, open_numbers, shortest_moves, write_shortest

MOST_OPEN = 1000


def ratio_of(top, low):
    """A ratio in lowest terms."""
    common = gcd(top, low)
    return (top // common, low // common)


class Rings:
    """Rings among numbered links: links tell of each spot pairs of a count and the spot led to.

    The ratio of a ring is the sum of its counts by the number of its links. heights are
    such that no link leads to one greater than the height there, less top, and low more
    for each that the link counts; they can be had if no ring has a lesser ratio.
    """

    def __init__(self, links):
        self.links = links
        self.heights = {}
        # Of each spot the link for the sake of which it was last raised.
        self.raised = {}

    def raise_once(self, top, low):
        """Raises each height as far as one link asks for it; whether any had to be."""
        heights = self.heights
        changed = False
        for spot, pairs in self.links.items():
            for link, (count, target) in enumerate(pairs):
                height = heights[target] + top - low * count
                if height > heights[spot]:
                    heights[spot] = height
                    self.raised[spot] = link
                    changed = True
        return changed

    def ring_raised(self):
        """A ring of links that raise each other for ever: pairs of spot and link, none if there is no ring."""
        walked = {}
        for first in self.raised:
            spot = first
            while spot in self.raised and spot not in walked:
                walked[spot] = first
                spot = self.links[spot][self.raised[spot]][1]
            if walked.get(spot) == first:
                return self.ring_from(spot)
        return []

    def ring_from(self, first):
        ring = []
        spot = first
        while not ring or spot != first:
            link = self.raised[spot]
            ring.append((spot, link))
            spot = self.links[spot][link][1]
        return ring

    def lesser(self, top, low):
        """A ring of a lesser ratio; none, and the heights are had, if there is no such ring."""
        self.heights = {spot: 0 for spot in self.links}
        self.raised = {}
        ring = []
        while not ring and self.raise_once(top, low):
            ring = self.ring_raised()
        return ring

    def least(self):
        """The least ratio of the rings, and one that has it, with the heights for it; there must be a ring."""
        # Above that of any ring, for each link counts at most one.
        ratio = (2, 1)
        best = []
        ring = self.lesser(ratio[0], ratio[1])
        while ring:
            best = ring
            counts = [self.links[spot][link][0] for spot, link in ring]
            ratio = ratio_of(sum(counts), len(counts))
            ring = self.lesser(ratio[0], ratio[1])
        return (ratio, best)


class Depths:
    """How deep the zeros can keep a program down, whatever its moves are, at a ratio.

    links tell of each moment its moves. A depth is how much the program can gain at most
    before it has to lose as much again: a step gains low less top, a touch loses top. It
    is missing in depths where the program can gain for ever, or come to the end.
    """

    def __init__(self, links, ratio):
        self.links = links
        self.top, self.low = ratio
        # By moment the place of a move among its moves, None where the program stops to gain.
        self.choices = {number: None for number in links}
        self.depths = {number: 0 for number in links}

    def gain(self, move):
        return self.low - self.top if move == STEP else -self.top

    def depth_by(self, move, targets):
        """The depth if a move is done, None if the program can then gain for ever."""
        known = [self.depths[target] for target in targets if target in self.depths]
        return min(known) + self.gain(move) if known else None

    def choose(self, number):
        """Takes the move with the greatest depth if that is greater than by the one before."""
        best = self.depths[number]
        before = self.choices[number]
        for choice, (move, targets) in enumerate(self.links[number]):
            depth = self.depth_by(move, targets)
            if depth is None:
                self.choices[number] = choice
                return True
            if depth > best:
                best = depth
                self.choices[number] = choice
        return self.choices[number] != before

    def measure(self):
        """The depths by the moves that were chosen, the zeros going the way of the least."""
        sources = {number: [] for number in self.links}
        for number, choice in self.choices.items():
            if choice is not None:
                move, targets = self.links[number][choice]
                for target in targets:
                    sources[target].append((number, self.gain(move)))
        depths = {number: 0 for number, choice in self.choices.items() if choice is None}
        changed = list(depths)
        while changed:
            following = {}
            for target in changed:
                for number, gain in sources[target]:
                    depth = depths[target] + gain
                    if number not in depths or depth < depths[number]:
                        depths[number] = depth
                        following[number] = True
            changed = list(following)
        self.depths = depths

    def choose_all(self):
        """Whether any moment has a better move than the one before."""
        changed = False
        for number in self.depths:
            if self.choose(number):
                changed = True
        return changed

    def deepen(self):
        """Chooses moves till none can be chosen better."""
        while self.choose_all():
            self.measure()

    def chosen_moves(self):
        """By moment the move that was chosen, where one was."""
        return {number: self.links[number][choice][0]
                for number, choice in self.choices.items() if choice is not None}


class Sharing:
    """The share of a program: its ratio, moves that reach it, and the heights and depths that show it.

    Moves are made better till the zeros can keep down whatever is done: each time the
    depths at the worst share of the moves so far tell of moves with a greater one.
    """

    def __init__(self, book):
        self.book = book
        self.links = self.all_links()
        self.moves = shortest_moves(book)[0]
        self.ratio = None
        self.heights = {}
        self.depths = {}

    def all_links(self):
        """The moves of all moments to which moves lead from the beginning."""
        links = {}
        open_ones = [0]
        while open_ones:
            number = open_ones.pop()
            if number not in links:
                links[number] = moves_of(self.book, number)
                for move, targets in links[number]:
                    open_ones.extend(targets)
        return links

    def counted_links(self):
        """The links among the moments to which the moves so far lead, each step counted."""
        links = {}
        open_ones = [0]
        while open_ones:
            number = open_ones.pop()
            if number not in links:
                chosen = self.moves[number]
                pairs = []
                for move, targets in self.links[number]:
                    if move == chosen:
                        pairs = [(1 if move == STEP else 0, target) for target in targets]
                links[number] = pairs
                open_ones.extend([target for count, target in pairs])
        return links

    def weigh(self):
        """The worst share of the moves so far, its heights, and the depths at it."""
        rings = Rings(self.counted_links())
        self.ratio = rings.least()[0]
        self.heights = rings.heights
        depths = Depths(self.links, self.ratio)
        depths.deepen()
        self.depths = depths.depths
        return depths

    def solve(self):
        depths = self.weigh()
        while 0 not in self.depths:
            self.moves = depths.chosen_moves()
            depths = self.weigh()


def share_book(machine, program):
    """The book of a program that can be kept, its moments not too many."""
    book = open_book(machine, program)
    if len(open_numbers(book)) > MOST_OPEN:
        raise TooMany(MOST_OPEN)
    return book


def sharing_of(book):
    """The share of a program with all that shows it, None if no course goes on for ever."""
    if not may_go_on(len(book.machine[0]), book.program):
        return None
    sharing = Sharing(book)
    sharing.solve()
    return sharing


def share(machine, program):
    """The greatest worst share, None if no course goes on for ever."""
    sharing = sharing_of(share_book(machine, program))
    return None if sharing is None else sharing.ratio


def kept_best(machine, program):
    """A kept program that carries a program and has the greatest worst share."""
    book = share_book(machine, program)
    sharing = sharing_of(book)
    if sharing is None:
        return write_shortest(book)
    return Writer(book, sharing.moves, sharing.heights, sharing.ratio).whole()

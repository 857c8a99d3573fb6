"""Whether a kept program carries a program: both are walked together."""

from fademill.checks import check_kept, check_machine, check_program
from fademill.needs import lives_told, marks_of
from fademill.programs import branches, lives_behind, places_of

# The end of the program, told as a part of a way.
THE_END = -1


class Ways:
    """Walks all ways at once, a tick further each time, till one goes wrong.

    Ways are numbered; each is kept as (number of the way that is shorter by one, where it
    has come to). A way may have come there in more than one state.
    """

    def __init__(self):
        self.ways = []
        self.seen = {}

    def add_way(self, before, at):
        self.ways.append((before, at))
        return len(self.ways) - 1

    def whole_way(self, way):
        """The places of a way, from the first on."""
        parts = []
        while way is not None:
            way, at = self.ways[way]
            parts.append(at)
        return tuple(reversed(parts))

    def onward(self, at, state):
        """A word if it goes wrong here, or None, and the pairs of place and state that come next.

        This is for the classes below to tell: here nothing goes wrong, and nothing comes.
        """
        return (None, [])

    def all_onward(self, way, states):
        """The least word of all states of a way, or None, and by place the states that come next."""
        at = self.ways[way][1]
        words = []
        coming = {}
        for state in states:
            word, pairs = self.onward(at, state)
            if word is not None:
                words.append(word)
            for place, following in pairs:
                if (place, following) not in self.seen:
                    self.seen[(place, following)] = True
                    coming.setdefault(place, []).append(following)
        return (min(words, default=None), coming)

    def first_fault(self, at, state):
        """The least word and the least of the shortest ways that go wrong, None if none does."""
        layer = [(self.add_way(None, at), [state])]
        # A layer holds ways of one length in ascending order, so the first that goes wrong is the least.
        while layer:
            following = []
            for way, states in layer:
                word, coming = self.all_onward(way, states)
                if word is not None:
                    return (word, self.whole_way(way))
                for place in sorted(coming):
                    following.append((self.add_way(way, place), coming[place]))
            layer = following
        return None


class Walk(Ways):
    """A program and a kept program, walked together on a machine.

    A state is (where the kept program stands, lives).
    """

    def __init__(self, machine, program, kept):
        Ways.__init__(self)
        self.machine = machine
        self.program = program
        self.kept = kept
        self.places = places_of(program)
        self.kept_places = places_of(kept)
        self.marks = marks_of(len(machine[0]), program)

    def told_place(self, place):
        return THE_END if place == len(self.program) else place

    def state_at(self, place, kept_place, lives):
        # Lives that are not needed change nothing: told as 0 they leave fewer states.
        return (kept_place, lives_told(lives, self.marks[place]))

    def behind_touches(self, state):
        """The state behind the touches that the kept program does first, None if they never end."""
        spot, lives = state
        for _ in range(len(self.kept) + 1):
            if spot == len(self.kept) or self.kept[spot][0] != "touch":
                return (spot, lives)
            lives = lives_behind(self.machine, lives, self.kept[spot])
            spot = self.kept_places[spot + 1]
        return None

    def is_alike(self, at, spot):
        """Whether both are at the end, or at the same instruction."""
        if at == THE_END or spot == len(self.kept):
            return at == THE_END and spot == len(self.kept)
        if self.program[at][0] == "zero":
            return self.kept[spot][0] == "zero"
        return self.program[at] == self.kept[spot]

    def onward(self, at, state):
        """A word if it goes wrong here, or None, and the pairs of place and state that come next."""
        met = self.behind_touches(state)
        if met is None or not self.is_alike(at, met[0]):
            return ("unlike", [])
        if at == THE_END:
            return (None, [])
        spot, lives = met
        lives = lives_behind(self.machine, lives, self.program[at])
        if lives is None:
            return ("lost", [])
        coming = []
        places = branches(self.program, self.places, at)
        kept_places = branches(self.kept, self.kept_places, spot)
        for place, kept_place in zip(places, kept_places):
            coming.append((self.told_place(place), self.state_at(place, kept_place, lives)))
        return (None, coming)

    def beginning(self):
        """Where the program stands first, and in which state."""
        place = self.places[0]
        return (self.told_place(place), self.state_at(place, self.kept_places[0], self.machine[0]))


def fault(machine, program, kept):
    """None if a kept program carries a program, otherwise a word and the way to where it goes wrong."""
    check_machine(machine)
    check_program(len(machine[0]), program)
    check_kept(len(machine[0]), kept)
    walk = Walk(machine, program, kept)
    at, state = walk.beginning()
    return walk.first_fault(at, state)


def carries(machine, program, kept):
    """Whether a kept program carries a program."""
    return fault(machine, program, kept) is None

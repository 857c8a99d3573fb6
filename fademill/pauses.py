"""Pauses: what is lost if a kept program once does nothing for some ticks."""

from fademill.checks import MOST_FADE, check_number
from fademill.errors import NotCarried
from fademill.programs import branches, lives_behind, places_of
from fademill.walks import Ways, carries

MOST_PAUSE = 100


class Pausing(Ways):
    """A kept program, walked on a machine, with a pause ahead of one instruction or none.

    A state is (lives, whether the pause was made).
    """

    def __init__(self, machine, kept, ticks):
        Ways.__init__(self)
        self.machine = machine
        self.kept = kept
        self.ticks = ticks
        self.places = places_of(kept)

    def with_pause(self, state):
        """The states in which an instruction may be done: as it is, and behind a pause."""
        lives, paused = state
        if paused:
            return [state]
        return [state, (tuple([max(life - self.ticks, 0) for life in lives]), True)]

    def onward(self, at, state):
        """A word if there is a loss here, or None, and the pairs of place and state that come next."""
        coming = []
        for lives, paused in self.with_pause(state):
            behind = lives_behind(self.machine, lives, self.kept[at])
            if behind is None:
                return ("lost", [])
            for place in branches(self.kept, self.places, at):
                if place != len(self.kept):
                    coming.append((place, (behind, paused)))
        return (None, coming)

    def loss(self):
        """The least of the shortest ways to a loss, None if there is no loss."""
        if self.places[0] == len(self.kept):
            return None
        found = self.first_fault(self.places[0], (self.machine[0], False))
        return None if found is None else found[1]


def check_carried(machine, program, kept):
    if not carries(machine, program, kept):
        raise NotCarried("it goes wrong even without a pause")


def lost_by(machine, program, kept, ticks):
    """The least of the shortest ways of a kept program to a loss that some pause brings, None without one."""
    check_carried(machine, program, kept)
    check_number(ticks, 0, MOST_PAUSE)
    return Pausing(machine, kept, ticks).loss()


def longest_pause(machine, program, kept):
    """The greatest number of ticks that any pause may have without a loss, None if any number will do."""
    check_carried(machine, program, kept)
    # In a pause as long as the greatest fade all that can be lost is lost.
    for ticks in range(1, MOST_FADE + 1):
        if Pausing(machine, kept, ticks).loss() is not None:
            return ticks - 1
    return None

"""The document's words on cells alone, pauses and orders, done again slowly and without the package."""

from fractions import Fraction

from tests import plain


def deeds(machine):
    return [None] + list(range(len(machine[0])))


def behind(machine, lives, one):
    return plain.deed(machine, lives, "wait") if one is None else plain.deed(machine, lives, "touch", one)


def alive(cells, lives):
    return all(lives[cell] > 0 for cell in cells)


def links(machine, cells):
    """By lives the pairs of a deed and the lives behind, as long as all of the cells are alive."""
    found, open_ones = {}, [machine[0]]
    while open_ones:
        lives = open_ones.pop()
        if lives not in found:
            pairs = [(one, behind(machine, lives, one)) for one in deeds(machine)]
            found[lives] = [(one, after) for one, after in pairs if alive(cells, after)]
            open_ones.extend(after for _, after in found[lives])
    return found


def most_deeds(machine, cells):
    """How many deeds can be done while all are alive, None if any number can."""
    found = links(machine, cells)
    layer, many = {machine[0]}, 0
    while many <= len(found):
        layer = {after for lives in layer for _, after in found[lives]}
        if not layer:
            return many
        many += 1
    return None


def best_waits(machine, cells):
    """The greatest mean of waits in a ring, by Karp's theorem; None if there is no ring."""
    found = links(machine, cells)
    many = len(found)
    rows = [{machine[0]: 0}]
    for _ in range(many):
        row = {}
        for lives, waits in rows[-1].items():
            for one, after in found[lives]:
                row[after] = max(row.get(after, -1), waits + (one is None))
        rows.append(row)
    if not rows[-1]:
        return None
    share = max(min(Fraction(rows[-1][lives] - row[lives], many - k) for k, row in enumerate(rows[:-1]) if lives in row)
                for lives in rows[-1])
    return share.numerator, share.denominator


def keeps(machine, cells, lead, ring):
    """Of tuples of deeds: the ring is done so often that a life that falls must be gone."""
    lives = machine[0]
    for one in lead + ring * 20:
        lives = behind(machine, lives, one)
        if not alive(cells, lives):
            return False
    return True


def lost_by(machine, kept, ticks):
    """All ways of one length at a time."""
    first = plain.stand(kept, 0)
    states = {((first,), machine[0], False)} if first < len(kept) else set()
    seen = set()
    while states:
        lost, following = [], set()
        for way, lives, paused in states:
            later = lives
            for _ in range(ticks):
                later = plain.deed(machine, later, "wait")
            for before, done in {(lives, paused), (lives if paused else later, True)}:
                after = plain.done(machine, before, kept[way[-1]])
                if after is None:
                    lost.append(way)
                else:
                    following |= {(way + (place,), after, done) for place in plain.nexts(kept, way[-1])
                                  if place < len(kept)}
        if lost:
            return min(lost)
        seen |= {(way[-1], lives, paused) for way, lives, paused in states}
        states = {state for state in following if (state[0][-1],) + state[1:] not in seen}
    return None


def longest_pause(machine, kept):
    for ticks in range(12):
        if lost_by(machine, kept, ticks) is not None:
            return ticks - 1
    return None


def called(program, order):
    words = plain.READS + ("set",)
    return tuple((line[0], order[line[1]]) if line[0] in words else line for line in program)

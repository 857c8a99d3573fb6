"""The document's words on what programs need, hurries and keepers, done again slowly and without the package."""

import itertools

from tests import plain

NEVER = 10 ** 9


def all_fades(cells, most):
    return itertools.product(range(1, most + 1), repeat=cells)


def least_fades(rows, able, most):
    """Of the fades with which something is able, those that none of one less in one place is."""
    found = {fades for fades in all_fades(len(rows), most) if able((fades, rows))}
    least = []
    for fades in sorted(found):
        lesser = [fades[:cell] + (fade,) + fades[cell + 1:] for cell in range(len(rows)) for fade in range(1, fades[cell])]
        if not found & set(lesser):
            least.append(fades)
    return tuple(least)


def joined(rows, one, other):
    """Rows told by the lots of their cells, in the order of the first cells of the lots."""
    lots = [[cell for cell in range(len(rows)) if rows[cell] == row] for row in range(max(rows) + 1)]
    both = [lot for lot in lots if one in lot or other in lot]
    lots = sorted([lot for lot in lots if lot not in both] + [sum(both, [])], key=min)
    return tuple(next(at for at, lot in enumerate(lots) if cell in lot) for cell in range(len(rows)))


def fewest_touches(machine, program):
    """By going over all moments again and again, of a program whose courses all end; NEVER if it can't be kept."""
    found = plain.links(machine, program)
    least = dict.fromkeys(found, NEVER)
    changed = True
    while changed:
        changed = False
        for one, (touches, step) in found.items():
            many = NEVER if step is None else max([least[other] for other in step], default=0)
            many = min([many] + [1 + least[other] for other in touches])
            if many < least[one]:
                least[one] = many
                changed = True
    return least.get(plain.beginning(machine, program), 0)


def shortest_rows(machine, program):
    """The least number of touches, tried one behind another."""
    found = plain.links(machine, program)
    first = plain.beginning(machine, program)
    if first is None:
        return 0
    for most in range(len(found) + 1):
        rows = {one: within(found, one, most) for one in found}
        good = set(found)
        while True:
            safe = {one for one in found if found[one][1] is not None and found[one][1] <= good}
            left = {one for one in good if rows[one] & safe}
            if left == good:
                break
            good = left
        if first in good:
            return most
    return None


def within(found, one, most):
    """The moments to which so many touches or fewer lead."""
    met = {one}
    for _ in range(most):
        met |= {other for here in met for other in found[here][0]}
    return met


def touches_at_most(kept):
    """Pairs of the most touches in any course, and behind one another; NEVER if there is no end of them."""
    counts = [touches_from(kept, True), touches_from(kept, False)]
    return tuple(count[plain.stand(kept, 0)] for count in counts)


def touches_from(kept, through):
    """For each place the most touches from it on: through all instructions, or only till the next one."""
    most = [0] * (len(kept) + 1)
    for again in range(len(kept) + 2):
        new = list(most)
        for at in range(len(kept)):
            if plain.stand(kept, at) == at:
                own = kept[at][0] == "touch"
                ahead = max(most[place] for place in plain.nexts(kept, at)) if own or through else 0
                new[at] = ahead + own
        if new == most:
            return most if through else [max(most)] * len(most)
        most = new
    return [NEVER] * len(most)


def at_full_speed(machine, program, hands):
    """All states that keepers may bring about, those from which something is lost left out again and again."""
    fades, rows = machine
    lots = [set(lot) for many in range(hands + 1) for lot in itertools.combinations(range(max(rows) + 1), many)]
    first = (plain.stand(program, 0), fades)
    found, open_ones = {}, [first]
    while open_ones:
        state = open_ones.pop()
        if state not in found and state[0] < len(program):
            found[state] = ways(machine, program, state, lots)
            open_ones.extend(other for way in found[state] for other in way)
    good = set(found)
    while True:
        left = {state for state in good
                if any(all(other in good or other[0] == len(program) for other in way) for way in found[state])}
        if left == good:
            return first in good or first[0] == len(program)
        good = left


def ways(machine, program, state, lots):
    """For each lot of rows touched the states that may follow; none if the instruction is a loss."""
    fades, rows = machine
    at, lives = state
    behind = plain.done(machine, lives, program[at])
    if behind is None:
        return []
    found = []
    for lot in lots:
        fresh = tuple(fades[cell] if rows[cell] in lot and lives[cell] > 0 else behind[cell] for cell in range(len(fades)))
        found.append([(place, fresh) for place in plain.nexts(program, at)])
    return found

"""The document's words, done again slowly and without the package, to compare with it."""

import random

READS = ("get", "plus", "minus")


def deed(machine, lives, word, cell=None):
    """The lives at the next tick behind touch, set or wait."""
    fades, rows = machine
    behind = []
    for at in range(len(fades)):
        fresh = cell is not None and (
            (rows[at] == rows[cell] and lives[at] > 0) or (word == "set" and at == cell))
        behind.append(fades[at] if fresh else max(lives[at] - 1, 0))
    return tuple(behind)


def done(machine, lives, instruction):
    """The lives behind an instruction or touch, None for a loss."""
    word = instruction[0]
    if word in READS + ("touch", "set"):
        if word in READS and lives[instruction[1]] == 0:
            return None
        return deed(machine, lives, "set" if word == "set" else "touch", instruction[1])
    return deed(machine, lives, "wait")


def stand(program, index):
    passed = set()
    while index < len(program) and program[index][0] == "go" and index not in passed:
        passed.add(index)
        index = program[index][1]
    if index == len(program) or program[index][0] in ("go", "stop"):
        return len(program)
    return index


def nexts(program, at):
    """The places that may follow, if the hand is 0 first."""
    if program[at][0] == "zero":
        return [stand(program, program[at][1]), stand(program, at + 1)]
    return [stand(program, at + 1)]


def reached(program):
    found = set()
    open_ones = {stand(program, 0)}
    while open_ones:
        found |= open_ones
        open_ones = {place for at in open_ones if at < len(program) for place in nexts(program, at)} - found
    return tuple(sorted(found - {len(program)}))


def may_go_on(program):
    """A course as long as this comes to a place twice, so some course goes round for ever."""
    places = {stand(program, 0)}
    for _ in range(len(program) + 1):
        places = {place for at in places if at < len(program) for place in nexts(program, at)}
    return bool(places)


def needed(cells, program, index):
    found = []
    for cell in range(cells):
        open_ones, seen = [stand(program, index)], set()
        while open_ones:
            at = open_ones.pop()
            if at == len(program) or at in seen:
                continue
            seen.add(at)
            if program[at][0] in READS and program[at][1] == cell:
                found.append(cell)
                break
            if program[at] != ("set", cell):
                open_ones.extend(nexts(program, at))
    return tuple(found)


def run(cells, machine, program, inputs, most):
    """A run on a machine, or on cells that last if there is no machine."""
    lives = machine[0] if machine else None
    hand, held, said, left, ticks = 0, [0] * cells, [], list(inputs), 0
    at = stand(program, 0)
    while at != len(program) and ticks < most:
        word, *number = program[at]
        if machine:
            lives = done(machine, lives, program[at])
            if lives is None:
                return tuple(said), "lost", ticks
        follower = at + 1
        if word == "get":
            hand = held[number[0]]
        if word == "plus":
            hand = hand + held[number[0]]
        if word == "minus":
            hand = hand - held[number[0]]
        if word == "set":
            held[number[0]] = hand
        if word == "put":
            hand = number[0]
        if word == "say":
            said.append(hand)
        if word == "ask":
            hand = left.pop(0) if left else 0
        if word == "zero" and hand == 0:
            follower = number[0]
        at = stand(program, follower)
        ticks += 1
    return tuple(said), "stopped" if at == len(program) else "running", ticks


def moment(cells, program, at, lives):
    needs = needed(cells, program, at)
    return at, tuple(life if cell in needs else 0 for cell, life in enumerate(lives))


def touched(machine, program, one):
    at, lives = one
    cells = len(machine[0])
    return {moment(cells, program, at, deed(machine, lives, "touch", cell)) for cell in range(cells)}


def stepped(machine, program, one):
    """The moments to which the instruction may lead, None for a loss."""
    at, lives = one
    behind = done(machine, lives, program[at])
    if behind is None:
        return None
    return {moment(len(machine[0]), program, place, behind)
            for place in nexts(program, at) if place < len(program)}


def beginning(machine, program):
    at = stand(program, 0)
    return None if at == len(program) else moment(len(machine[0]), program, at, machine[0])


def links(machine, program):
    """For each moment that counts: where touches lead, and where the instruction."""
    found = {}
    open_ones = [one for one in [beginning(machine, program)] if one is not None]
    while open_ones:
        one = open_ones.pop()
        if one not in found:
            found[one] = touched(machine, program, one), stepped(machine, program, one)
            open_ones.extend(found[one][0] | (found[one][1] or set()))
    return found


def behind_touches(found, one):
    """All moments to which rows of touches lead, none at all being one of these rows."""
    met, open_ones = set(), [one]
    while open_ones:
        here = open_ones.pop()
        if here not in met:
            met.add(here)
            open_ones.extend(found[here][0])
    return met


def ranks(machine, program):
    """The rank of each moment that is doomed, and all the links."""
    found = links(machine, program)
    rows = {one: behind_touches(found, one) for one in found}
    doomed = {}
    while True:
        unsafe = {one for one in found if found[one][1] is None or any(x in doomed for x in found[one][1])}
        new = [one for one in found if one not in doomed and rows[one] <= unsafe]
        if not new:
            return doomed, found
        rank = max(doomed.values(), default=-1) + 1
        doomed.update({one: rank for one in new})


def written_out(machine, program):
    """A kept program that carries, None if the beginning is doomed."""
    doomed, found = ranks(machine, program)
    first = beginning(machine, program)
    if first in doomed:
        return None
    if first is None:
        return (("stop",),)
    safe = {one for one in found if one not in doomed and found[one][1] is not None
            and not any(x in doomed for x in found[one][1])}
    starts, lines, fixes = {}, [], []
    open_ones = [first]
    while open_ones:
        one = open_ones.pop(0)
        if one in starts:
            continue
        starts[one] = len(lines)
        for cell in shortest_touches(machine, program, found, safe, one):
            lines.append(("touch", cell))
            one = moment(len(machine[0]), program, one[0], deed(machine, one[1], "touch", cell))
        at = one[0]
        behind = done(machine, one[1], program[at])
        targets = [None if place == len(program) else moment(len(machine[0]), program, place, behind)
                   for place in nexts(program, at)]
        lines.append(program[at])
        if len(targets) == 2:
            fixes.append((len(lines) - 1, "zero", targets[0]))
        lines.append(("go", 0))
        fixes.append((len(lines) - 1, "go", targets[-1]))
        open_ones.extend(target for target in targets if target is not None)
    for line, word, target in fixes:
        lines[line] = (word, len(lines) if target is None else starts[target])
    return tuple(lines)


def shortest_touches(machine, program, found, safe, one):
    layer, seen = [(one, ())], set()
    while layer:
        following = []
        for here, row in layer:
            if here in safe:
                return row
            if here not in seen:
                seen.add(here)
                for cell in range(len(machine[0])):
                    lives = deed(machine, here[1], "touch", cell)
                    following.append((moment(len(machine[0]), program, here[0], lives), row + (cell,)))
        layer = following
    raise AssertionError("no way to a safe moment")


def fault(machine, program, kept):
    """All ways of one length at a time; None if no new state comes any more."""
    states = {((stand(program, 0),), stand(kept, 0), machine[0])}
    seen = set()
    while states:
        faults, following = [], set()
        for way, spot, lives in states:
            at = way[-1]
            touches = 0
            while spot < len(kept) and kept[spot][0] == "touch" and touches <= len(kept):
                lives = done(machine, lives, kept[spot])
                spot = stand(kept, spot + 1)
                touches += 1
            here = "end" if at == len(program) else program[at]
            there = "end" if spot == len(kept) else kept[spot]
            if here[0] == there[0] == "zero":
                there = here
            told = tuple(-1 if place == len(program) else place for place in way)
            if here != there:
                faults.append((told, "unlike"))
            elif here != "end":
                behind = done(machine, lives, here)
                if behind is None:
                    faults.append((told, "lost"))
                else:
                    following |= {(way + (a,), b, behind)
                                  for a, b in zip(nexts(program, at), nexts(kept, spot))}
        if faults:
            way, word = min(faults)
            return word, way
        # A state that was met by a shorter way has nothing new behind it.
        seen |= {(way[-1], spot, lives) for way, spot, lives in states}
        states = {state for state in following if (state[0][-1],) + state[1:] not in seen}
    return None


def some_machine(chance, most_cells=3, most_fade=4):
    cells = chance.randint(1, most_cells)
    rows = []
    for _ in range(cells):
        rows.append(chance.randint(0, max(rows, default=-1) + 1))
    return tuple(chance.randint(1, most_fade) for _ in range(cells)), tuple(rows)


def some_program(chance, cells, most=8, words=("get", "get", "plus", "minus", "set", "put", "say", "ask",
                                              "zero", "zero", "zero", "go", "stop")):
    length = chance.randint(1, most)
    lines = []
    for _ in range(length):
        word = chance.choice(words)
        if word in READS + ("set", "touch"):
            lines.append((word, chance.randrange(cells)))
        elif word == "put":
            lines.append((word, chance.randint(-2, 2)))
        elif word in ("zero", "go"):
            lines.append((word, chance.randint(0, length)))
        else:
            lines.append((word,))
    return tuple(lines)


def with_touches(chance, cells, program, share=0.4):
    """A program with touches put in somewhere, all that it goes to moved along."""
    moved, lines = [], []
    for instruction in program:
        moved.append(len(lines))
        while chance.random() < share:
            lines.append(("touch", chance.randrange(cells)))
        lines.append(instruction)
    moved.append(len(lines))
    return tuple((line[0], moved[line[1]]) if line[0] in ("zero", "go") else line for line in lines)


def chance_of(seed):
    return random.Random(seed)

"""Programs: where they stand, where they go on, and what their instructions do to lives.

Only the functions of the interface, reached and may_go_on, check what they are passed.
"""

from fademill.checks import check_cells, check_program
from fademill.machines import lives_set, lives_touched, lives_waited

READS = ("get", "plus", "minus")


def places_of(program):
    """For each index, and for that of the end, where a program stands that has come there."""
    end = len(program)
    places = [None] * end + [end]
    for index in range(end):
        passed = []
        at = index
        while places[at] is None:
            passed.append(at)
            word = program[at][0]
            if word == "go":
                # Told as the end until more is known: gos that come back to here are an end.
                places[at] = end
                at = program[at][1]
            else:
                places[at] = end if word == "stop" else at
        for one in passed:
            places[one] = places[at]
    return tuple(places)


def branches(program, places, at):
    """Where a program may stand behind the instruction at which it stands.

    Of a zero it is first where it goes on if the hand is 0, then where otherwise.
    """
    instruction = program[at]
    if instruction[0] == "zero":
        return (places[instruction[1]], places[at + 1])
    return (places[at + 1],)


def lives_behind(machine, lives, instruction):
    """The lives at the next tick if an instruction is done, None if that is a loss."""
    word = instruction[0]
    if word in READS and lives[instruction[1]] == 0:
        return None
    if word in READS or word == "touch":
        return lives_touched(machine, lives, instruction[1])
    if word == "set":
        return lives_set(machine, lives, instruction[1])
    return lives_waited(lives)


def reached(cells, program):
    """The instructions at which a program may stand, each zero going either way."""
    check_cells(cells)
    check_program(cells, program)
    places = places_of(program)
    found = {places[0]: True}
    open_ones = [places[0]]
    while open_ones:
        at = open_ones.pop()
        if at == len(program):
            continue
        for place in branches(program, places, at):
            if place not in found:
                found[place] = True
                open_ones.append(place)
    return tuple([at for at in sorted(found) if at != len(program)])


def may_go_on(cells, program):
    """Whether some course of a program never ends, each zero going either way."""
    check_cells(cells)
    check_program(cells, program)
    places = places_of(program)
    endless = {at: True for at in range(len(program)) if places[at] == at}
    shrinking = True
    while shrinking:
        ending = [at for at in endless
                  if not any([place in endless for place in branches(program, places, at)])]
        for at in ending:
            del endless[at]
        shrinking = len(ending) > 0
    return places[0] in endless

"""The document's words on dooms, shares and their papers, done again slowly and without the package."""

from fractions import Fraction

from tests import plain


def is_number(value, low, high):
    return type(value) is int and low <= value <= high


def as_moments(found, value):
    """By moment what a value tells of it, None for what is no ascending tuple of such triples."""
    if type(value) is not tuple:
        return None
    for triple in value:
        if type(triple) is not tuple or len(triple) != 3 or type(triple[1]) is not tuple:
            return None
        if not all(is_number(x, 0, 10 ** 6) for x in (triple[0], *triple[1], triple[2])) or triple[:2] not in found:
            return None
    told = {triple[:2]: triple[2] for triple in value}
    return told if list(value) == sorted(value) and len(told) == len(value) else None


def shows_doom(machine, program, value):
    found = plain.links(machine, program)
    told = as_moments(found, value)
    if told is None or plain.beginning(machine, program) not in told:
        return False
    for one, rank in told.items():
        touches, step = found[one]
        if not all(other in told and told[other] <= rank for other in touches):
            return False
        if step is not None and not any(other in told and told[other] < rank for other in step):
            return False
    return True


def open_moves(machine, program):
    """By moment that isn't doomed its moves: pairs of whether it is the instruction, and where it may lead."""
    doomed, found = plain.ranks(machine, program)
    moves = {}
    for one, (touches, step) in found.items():
        if one not in doomed:
            moves[one] = [(False, {other}) for other in touches if other not in doomed]
            if step is not None and not step & set(doomed):
                moves[one].append((True, step))
    return moves


def shows_share(machine, program, value):
    """Of a program that can be kept."""
    moves = open_moves(machine, program)
    if not plain.may_go_on(program) or type(value) is not tuple or len(value) != 3:
        return False
    ratio, heights, depths = value
    if type(ratio) is not tuple or len(ratio) != 2 or not all(is_number(x, 1, 10 ** 6) for x in ratio):
        return False
    top, low = ratio
    if top > low or Fraction(top, low).denominator != low:
        return False
    heights, depths = as_moments(moves, heights), as_moments(moves, depths)
    first = plain.beginning(machine, program)
    if heights is None or depths is None or first not in heights or first not in depths:
        return False
    for one, own in heights.items():
        if not any(all(other in heights and heights[other] <= own - top + low * step for other in others)
                   for step, others in moves[one]):
            return False
    for one, own in depths.items():
        if not all(any(other in depths and depths[other] <= own + top - low * step for other in others)
                   for step, others in moves[one]):
            return False
    return True


def share_in_the_long_run(machine, program):
    """The most instructions that can be had in so many ticks, by these ticks: as many as tell shares apart.

    Two shares lie apart by the square of the number of moments, and this many ticks come nearer than half of it.
    """
    moves = open_moves(machine, program)
    ticks = 2 * len(moves) ** 3 + 1
    endless = 10 ** 9
    most = dict.fromkeys(moves, 0)
    for _ in range(ticks):
        most = {one: max(min([most[other] for other in others], default=endless) + step for step, others in pairs)
                for one, pairs in moves.items()}
    share = Fraction(most[plain.beginning(machine, program)], ticks).limit_denominator(len(moves))
    return share.numerator, share.denominator


def worst_share(program):
    """The worst share of a kept program that carries: the least mean of its rings, by Karp's theorem."""
    places = [at for at in set(range(len(program))) if plain.stand(program, at) == at]
    reached = set(plain.reached(program))
    links = [(at, other, 0 if program[at][0] == "touch" else 1)
             for at in places if at in reached for other in plain.nexts(program, at) if other < len(program)]
    many = len(reached)
    rows = [dict.fromkeys(reached, 0)]
    for _ in range(many):
        row = {}
        for at, other, count in links:
            if at in rows[-1]:
                row[other] = min(row.get(other, 10 ** 9), rows[-1][at] + count)
        rows.append(row)
    if not rows[-1]:
        return None
    share = min(max(Fraction(rows[-1][at] - row[at], many - k) for k, row in enumerate(rows[:-1]) if at in row)
                for at in rows[-1])
    return share.numerator, share.denominator


def bent(chance, value):
    """A paper that is unlike in one place: a number, a place left out or done twice, or a kind."""
    if type(value) is int:
        return chance.choice((value + 1, value - 1, value + chance.randint(2, 9), -value, 10 ** 6, 10 ** 6 + 1,
                              bool(value), str(value), None, (value,)))
    if not value:
        return chance.choice((None, [], ((),), (None,)))
    at = chance.randrange(len(value))
    way = chance.randrange(12)
    if way == 0:
        return value[:at] + value[at + 1:]
    if way == 1:
        return value[:at] + (value[at],) + value[at:]
    if way == 2:
        return chance.choice((list(value), value[::-1], value[1:] + value[:1], None))
    return value[:at] + (bent(chance, value[at]),) + value[at + 1:]

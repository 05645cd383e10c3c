"""HEADS, by which tied ROUNDS are known, and how many hands there are."""

from owncells.errors import BadBox, TooGreat
from owncells.lattices import groups, rings, spread, ties, ways_apart
from owncells.matrices import hermite, multiplied, plus, reduced
from owncells.programs import is_place, is_tuple, need_lot, need_program, need_round

MOST_ROUNDS = 4000


def is_span(thing):
    """Whether it is a pair (LOW, HIGH) of integers, LOW no greater."""
    return is_place(thing, 2) and thing[0] <= thing[1]


def is_box(program, thing):
    """Whether it is a BOX of the PROGRAM."""
    return is_tuple(thing, program[0]) and all([is_span(span) for span in thing])


def need_box(program, box):
    """Raises BadBox if it is no BOX of the PROGRAM."""
    if not is_box(program, box):
        raise BadBox(box)


def many_rounds(program, box):
    """How many ROUNDS there are in a BOX."""
    return len(program[2]) * multiplied([high - low + 1 for low, high in box])


def need_few_rounds(program, box):
    """Raises TooGreat if there are more ROUNDS in a BOX than are gone through."""
    if many_rounds(program, box) > MOST_ROUNDS:
        raise TooGreat(MOST_ROUNDS)


def rounds_in(program, box):
    """A list of all ROUNDS in a BOX, ascending."""
    places = [()]
    for low, high in box:
        places = [place + (part,) for place in places for part in range(low, high + 1)]
    return [(statement, place) for statement in range(len(program[2])) for place in places]


def lead(program, found, statement):
    """What leads a statement's ROUNDS to their HEADS, by the ties that were found: the
    statement of these, a PLACE to be added, and the BASIS."""
    places = spread(program, found, statement)
    least = min(places)
    return least, places[least], hermite(rings(places, found))


def led(way, place):
    """The HEAD of the ROUND at the PLACE, of the statement with this lead."""
    least, step, steps = way
    return least, reduced(plus(place, step, 1), steps)


def head(program, lot, round_at):
    """The HEAD of a ROUND."""
    need_program(program)
    need_lot(program, lot)
    need_round(program, round_at)
    statement, place = round_at
    return led(lead(program, ties(program, lot), statement), place)


def are_tied(program, lot, one, other):
    """Whether two ROUNDS are tied."""
    return head(program, lot, one) == head(program, lot, other)


def many_hands(program, lot):
    """How many hands there are of all groups, or None for endlessly many."""
    many = 0
    for group in groups(program, lot):
        free, factors = ways_apart(program, lot, group[0])
        if free > 0:
            return None
        many = many + multiplied(factors)
    return many


def hands_in(program, lot, box):
    """How many hands have a ROUND in a BOX."""
    need_program(program)
    need_lot(program, lot)
    need_box(program, box)
    need_few_rounds(program, box)
    found = ties(program, lot)
    ways = [lead(program, found, statement) for statement in range(len(program[2]))]
    return len({led(ways[statement], place) for statement, place in rounds_in(program, box)})

"""PAPERS, which show that two ROUNDS are tied, or apart."""

from owncells.errors import BadPaper
from owncells.forms import do_agree, group_form, is_form, number_by, step_form
from owncells.hands import step_between
from owncells.lattices import joined, ties
from owncells.matrices import coordinates, hermite, less, plus, reduced, remainder, weighted
from owncells.programs import (
    have_common, is_integer, is_round, is_tuple, need_lot, need_program, need_round, touched_of)


def need_rounds(program, lot, one, other):
    """Raises what is wrong of the arguments that tell two ROUNDS, the first one first."""
    need_program(program)
    need_lot(program, lot)
    need_round(program, one)
    need_round(program, other)


def end(rounds):
    """The PLACE of the last ROUND."""
    return rounds[-1][1]


def chains(program, found, start):
    """A dict from each statement of the group of start to a CHAIN: ROUNDS from that of
    start at (0, ..) to one of this statement, each next one meeting the one ahead."""
    led = {start: ((start, (0,) * program[0]),)}
    waiting = [start]
    while waiting:
        near = waiting.pop()
        for one, other, step in found:
            if one == near and other not in led:
                led[other] = led[near] + ((other, plus(end(led[near]), step, 1)),)
                waiting.append(other)
            elif other == near and one not in led:
                led[one] = led[near] + ((one, less(end(led[near]), step)),)
                waiting.append(one)
    return led


def ring(led, tie, around):
    """A RING: by chains to the one statement of the tie, by the tie, and by chains back,
    which is a step around in all."""
    one, other, _ = tie
    back = [(statement, plus(place, around, 1)) for statement, place in reversed(led[other])]
    return led[one] + tuple(back)


def taken_rings(led, found, rest):
    """RINGS of which the rest is the sum, each with how often it is taken, or None if it is
    a sum of none."""
    depth = len(rest)
    few = []
    steps = ()
    left = rest
    for tie in found:
        one, other, step = tie
        if one in led and any(left[:depth]):
            around = less(plus(end(led[one]), step, 1), end(led[other]))
            if any(reduced(around + (0,) * len(few), steps)[:depth]):
                # Behind each of the steps stands how often each of the few rings is in it.
                steps = hermite([row + (0,) for row in steps] + [around + (0,) * len(few) + (1,)])
                few.append(ring(led, tie, around))
                left = reduced(rest + (0,) * len(few), steps)
    if any(left[:depth]):
        return None
    return tuple([(way, -times) for way, times in zip(few, left[depth:]) if times != 0])


def tied_paper(program, found, one, other):
    """The PAPER that both ROUNDS are tied, or None."""
    led = chains(program, found, one[0])
    if other[0] not in led:
        return None
    chain = led[other[0]]
    taken = taken_rings(led, found, less(less(other[1], one[1]), end(chain)))
    if taken is None:
        return None
    return "tied", chain, taken


def apart_paper(program, found, one, other):
    """The PAPER that both ROUNDS are apart, of two that are."""
    parts = joined(program, found)
    leads, places, rings = parts
    least = leads[one[0]]
    if leads[other[0]] != least:
        return "apart", group_form(program, leads)
    step = step_between(places, one, other)
    ways = [way for way in coordinates(hermite(rings[least]), program[0])
            if remainder(weighted(way[1], step), way[0]) != 0]
    factor, row = ways[0]
    return "apart", step_form(program, parts, least, factor, row)


def paper(program, lot, one, other):
    """A PAPER on whether two ROUNDS are tied."""
    need_rounds(program, lot, one, other)
    found = ties(program, lot)
    told = tied_paper(program, found, one, other)
    if told is None:
        return apart_paper(program, found, one, other)
    return told


def does_part(program, lot, one, other, form):
    """Whether any value is a FORM that keeps the LOT and numbers both ROUNDS unlike."""
    if not is_form(program, form) or not do_agree(form, ties(program, lot)):
        return False
    return number_by(form, one) != number_by(form, other)


def is_way(program, lot, thing, statement, far):
    """Whether any value is a tuple of ROUNDS, from that of a statement at (0, ..) to one of
    a statement far, each next one meeting the one ahead."""
    if not isinstance(thing, tuple) or len(thing) == 0:
        return False
    if not all([is_round(program, part) for part in thing]):
        return False
    if thing[0] != (statement, (0,) * program[0]) or thing[-1][0] != far:
        return False
    touching = [touched_of(program, lot, round_at) for round_at in thing]
    return all([have_common(near, after) for near, after in zip(touching, touching[1:])])


def is_taken(program, lot, thing, statement):
    """Whether any value is a pair (RING, TIMES), the RING from this statement."""
    if not is_tuple(thing, 2) or not is_integer(thing[1]):
        return False
    return is_way(program, lot, thing[0], statement, statement) and len(thing[0]) > 1


def do_tie(program, lot, one, other, chain, taken):
    """Whether any values are a CHAIN and RINGS that tie both ROUNDS."""
    if not is_way(program, lot, chain, one[0], other[0]) or not isinstance(taken, tuple):
        return False
    if not all([is_taken(program, lot, pair, one[0]) for pair in taken]):
        return False
    place = plus(one[1], end(chain), 1)
    for way, times in taken:
        place = plus(place, end(way), times)
    return place == other[1]


def check(program, lot, one, other, paper):
    """The first word of a PAPER that holds; BadPaper of any other value."""
    need_rounds(program, lot, one, other)
    if is_tuple(paper, 2) and paper[0] == "apart":
        if not does_part(program, lot, one, other, paper[1]):
            raise BadPaper("apart")
        return "apart"
    if is_tuple(paper, 3) and paper[0] == "tied":
        if not do_tie(program, lot, one, other, paper[1], paper[2]):
            raise BadPaper("tied")
        return "tied"
    raise BadPaper("form")

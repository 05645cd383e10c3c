"""PAPERS, which show that two ROUNDS are tied, or apart."""

from owncells.errors import BadPaper
from owncells.forms import do_agree, finest, is_form, number_by
from owncells.lattices import chains, ties
from owncells.matrices import hermite, plus, reduced, solution, tagged
from owncells.programs import (
    have_common, is_integer, is_round, is_tuple, need_lot, need_program, need_round, touched_of)


def need_rounds(program, lot, one, other):
    """Raises what is wrong of the arguments that tell two ROUNDS, the first one first."""
    need_program(program)
    need_lot(program, lot)
    need_round(program, one)
    need_round(program, other)


def moved(round_at, step):
    """The ROUND of the same statement a step on."""
    statement, place = round_at
    return statement, plus(place, step, 1)


def end(rounds):
    """The PLACE of the last ROUND."""
    return rounds[-1][1]


def ring(led, tie):
    """A RING: by chains to the one statement of the tie, by the tie, and by chains back."""
    one, other, step = tie
    around = plus(plus(end(led[one]), step, 1), end(led[other]), -1)
    return led[one] + tuple([moved(round_at, around) for round_at in reversed(led[other])])


def few_rings(led, found):
    """A list of RINGS, of whose steps those of all others are sums of multiples."""
    few = []
    steps = ()
    for tie in found:
        if tie[0] in led:
            way = ring(led, tie)
            if any(reduced(end(way), steps)):
                few.append(way)
                steps = hermite(steps + (end(way),))
    return few


def tied_paper(led, found, one, other):
    """The PAPER that both ROUNDS are tied, by chains from the one's statement, or None."""
    if other[0] not in led:
        return None
    chain = led[other[0]]
    few = few_rings(led, found)
    rest = plus(plus(other[1], one[1], -1), end(chain), -1)
    taken = solution(tagged([end(way) for way in few]), rest, len(few))
    if taken is None:
        return None
    return "tied", chain, tuple([(way, times) for way, times in zip(few, taken) if times != 0])


def apart_paper(program, lot, one, other):
    """The PAPER that both ROUNDS are apart, of two that are."""
    apart = [form for form in finest(program, lot) if number_by(form, one) != number_by(form, other)]
    return "apart", apart[0]


def paper(program, lot, one, other):
    """A PAPER on whether two ROUNDS are tied."""
    need_rounds(program, lot, one, other)
    found = ties(program, lot)
    told = tied_paper(chains(program, found, one[0]), found, one, other)
    if told is None:
        return apart_paper(program, lot, one, other)
    return told


def does_part(program, lot, one, other, form):
    """Whether any value is a FORM that keeps the LOT and numbers both ROUNDS unlike."""
    if not is_form(program, form) or not do_agree(form, ties(program, lot)):
        return False
    return number_by(form, one) != number_by(form, other)


def is_way(program, lot, thing, statement, far):
    """Whether any value is a tuple of ROUNDS, from that of a statement at (0, ..) to one of
    a statement far, each next one meeting the one ahead."""
    if not isinstance(thing, tuple) or len(thing) == 0:
        return False
    if not all([is_round(program, part) for part in thing]):
        return False
    if thing[0] != (statement, (0,) * program[0]) or thing[-1][0] != far:
        return False
    touching = [touched_of(program, lot, round_at) for round_at in thing]
    return all([have_common(near, after) for near, after in zip(touching, touching[1:])])


def is_taken(program, lot, thing, statement):
    """Whether any value is a pair (RING, TIMES), the RING from this statement."""
    if not is_tuple(thing, 2) or not is_integer(thing[1]):
        return False
    return is_way(program, lot, thing[0], statement, statement) and len(thing[0]) > 1


def do_tie(program, lot, one, other, chain, taken):
    """Whether any values are a CHAIN and RINGS that tie both ROUNDS."""
    if not is_way(program, lot, chain, one[0], other[0]) or not isinstance(taken, tuple):
        return False
    if not all([is_taken(program, lot, pair, one[0]) for pair in taken]):
        return False
    place = plus(one[1], end(chain), 1)
    for way, times in taken:
        place = plus(place, end(way), times)
    return place == other[1]


def check(program, lot, one, other, paper):
    """The first word of a PAPER that holds; BadPaper of any other value."""
    need_rounds(program, lot, one, other)
    if is_tuple(paper, 2) and paper[0] == "apart":
        if not does_part(program, lot, one, other, paper[1]):
            raise BadPaper("apart")
        return "apart"
    if is_tuple(paper, 3) and paper[0] == "tied":
        if not do_tie(program, lot, one, other, paper[1], paper[2]):
            raise BadPaper("tied")
        return "tied"
    raise BadPaper("form")

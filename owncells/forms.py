"""FORMS, which number ROUNDS, and DEALINGS, which deal them to hands by FORMS."""

from itertools import combinations

from owncells.errors import BadDealing, BadForm
from owncells.lattices import basis, groups, spread, ties
from owncells.matrices import agreeing, coordinates, units, weighted
from owncells.programs import (
    is_between, is_integer, is_place, is_tuple, need_lot, need_program, need_round)

MOST_MODULUS = 10 ** 30
MOST_FORMS = 13


def is_modulus(thing):
    """Whether it is a MODULUS of a FORM."""
    return is_between(thing, 0, MOST_MODULUS) and thing != 1


def is_term(program, thing):
    """Whether it is a pair (ROW, SHIFT)."""
    return is_tuple(thing, 2) and is_place(thing[0], program[0]) and is_integer(thing[1])


def is_form(program, thing):
    """Whether it is a FORM of the PROGRAM."""
    if not is_tuple(thing, 2):
        return False
    modulus, terms = thing
    if not is_modulus(modulus) or not is_tuple(terms, len(program[2])):
        return False
    return all([is_term(program, term) for term in terms])


def need_form(program, form):
    """Raises BadForm if it is no FORM of the PROGRAM."""
    if not is_form(program, form):
        raise BadForm(form)


def need_dealing(program, dealing):
    """Raises BadDealing if it is no DEALING of the PROGRAM."""
    if not isinstance(dealing, tuple) or len(dealing) > MOST_FORMS:
        raise BadDealing(())
    for spot, form in enumerate(dealing):
        if not is_form(program, form):
            raise BadDealing((spot,))


def remainder(whole, modulus):
    """The remainder of an integer by a MODULUS; all of it by 0."""
    if modulus == 0:
        return whole
    return whole % modulus


def number_by(form, round_at):
    """The NUMBER of a ROUND by a FORM."""
    modulus, terms = form
    statement, place = round_at
    row, shift = terms[statement]
    return remainder(weighted(row, place) + shift, modulus)


def hand_by(dealing, round_at):
    """The HAND of a ROUND by a DEALING."""
    return tuple([number_by(form, round_at) for form in dealing])


def number(program, form, round_at):
    """The NUMBER of a ROUND by a FORM."""
    need_program(program)
    need_form(program, form)
    need_round(program, round_at)
    return number_by(form, round_at)


def hand(program, dealing, round_at):
    """The HAND of a ROUND by a DEALING."""
    need_program(program)
    need_dealing(program, dealing)
    need_round(program, round_at)
    return hand_by(dealing, round_at)


def rest_of(form, statement):
    """The statement's ROW, as far as it counts by the MODULUS."""
    modulus, terms = form
    return tuple([remainder(factor, modulus) for factor in terms[statement][0]])


def does_agree(form, tie):
    """Whether all ROUNDS that meet by the tie have the same NUMBER."""
    one, other, step = tie
    start = (0,) * len(step)
    if number_by(form, (one, start)) != number_by(form, (other, step)):
        return False
    return rest_of(form, one) == rest_of(form, other)


def do_agree(form, found):
    """Whether the FORM keeps the LOT whose ties were found."""
    return all([does_agree(form, tie) for tie in found])


def does_keep(program, lot, form):
    """Whether a FORM keeps a LOT."""
    need_program(program)
    need_lot(program, lot)
    need_form(program, form)
    return do_agree(form, ties(program, lot))


def group_form(program, parts):
    """The FORM by which each ROUND has the number of its group."""
    still = (0,) * program[0]
    numbers = {statement: at for at, group in enumerate(parts) for statement in group}
    return 0, tuple([(still, numbers[statement]) for statement in range(len(program[2]))])


def step_form(program, places, modulus, row):
    """The FORM that numbers the ROUNDS of a group by a ROW, tied ones alike (the group is
    that of the places, as they are spread), and all others 0."""
    still = ((0,) * program[0], 0)
    ways = {statement: (row, -weighted(row, place)) for statement, place in places.items()}
    return modulus, tuple([ways.get(statement, still) for statement in range(len(program[2]))])


def finest(program, lot):
    """A finest DEALING: a FORM for each coordinate beside the lattice of each group, and
    one that tells groups apart, if there are several."""
    parts = groups(program, lot)
    found = ties(program, lot)
    forms = []
    if len(parts) > 1:
        forms.append(group_form(program, parts))
    for group in parts:
        places = spread(program, found, group[0])
        for factor, row in coordinates(basis(program, lot, group[0]), program[0]):
            if factor != 1:
                forms.append(step_form(program, places, factor, row))
    return tuple(forms)


def is_right(program, lot, dealing):
    """Whether a DEALING is right for a LOT."""
    need_program(program)
    need_lot(program, lot)
    need_dealing(program, dealing)
    found = ties(program, lot)
    return all([do_agree(form, found) for form in dealing])


def steps_within(program, dealing, statement):
    """The BASIS of all steps of a statement that lead to the same HAND."""
    steps = units(program[0])
    for modulus, terms in dealing:
        steps = agreeing(steps, terms[statement][0], modulus)
    return steps


def do_share(program, dealing, one, other):
    """Whether some ROUND of the one statement has the HAND of one of the other."""
    # Each row is 1, the one's PLACE and the other's, all so many times; what is left are
    # all rows with the same HAND, and the first of them has 1 again if this can be.
    rows = units(1 + 2 * program[0])
    for modulus, terms in dealing:
        row, shift = terms[one]
        far_row, far_shift = terms[other]
        weights = (shift - far_shift,) + row + tuple([-factor for factor in far_row])
        rows = agreeing(rows, weights, modulus)
    return len(rows) > 0 and rows[0][0] == 1


def is_finest(program, lot, dealing):
    """Whether a DEALING is right for a LOT, and no ROUNDS but tied ones have the same HAND."""
    if not is_right(program, lot, dealing):
        return False
    # By a right one, each HAND of a group is that of a ROUND of its first statement.
    firsts = [group[0] for group in groups(program, lot)]
    for statement in firsts:
        if steps_within(program, dealing, statement) != basis(program, lot, statement):
            return False
    return not any([do_share(program, dealing, one, other) for one, other in combinations(firsts, 2)])

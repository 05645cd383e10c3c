"""FORMS, which number ROUNDS, and DEALINGS, which deal them to hands by FORMS."""

from math import gcd

from owncells.errors import BadDealing, BadForm
from owncells.lattices import joined, ties
from owncells.matrices import agreeing, coordinates, hermite, remainder, units, weighted
from owncells.programs import is_between, is_integer, is_place, need_lot, need_program, need_round

MOST_MODULUS = 10 ** 30
MOST_FORMS = 13


def is_modulus(thing):
    """Whether it is a MODULUS of a FORM."""
    return is_between(thing, 0, MOST_MODULUS) and thing != 1


def is_form(program, thing):
    """Whether it is a FORM of the PROGRAM."""
    if not isinstance(thing, tuple) or len(thing) != 2:
        return False
    modulus, terms = thing
    if not is_modulus(modulus) or not isinstance(terms, tuple) or len(terms) != len(program[2]):
        return False
    for term in terms:
        if not isinstance(term, tuple) or len(term) != 2:
            return False
        if not is_place(term[0], program[0]) or not is_integer(term[1]):
            return False
    return True


def need_form(program, form):
    """Raises BadForm if it is no FORM of the PROGRAM."""
    if not is_form(program, form):
        raise BadForm(form)


def wrong_in_dealing(program, thing):
    """The place of the first thing that is wrong, or None for a DEALING of the PROGRAM."""
    if not isinstance(thing, tuple) or len(thing) > MOST_FORMS:
        return ()
    for spot, form in enumerate(thing):
        if not is_form(program, form):
            return (spot,)
    return None


def need_dealing(program, dealing):
    """Raises BadDealing if it is no DEALING of the PROGRAM."""
    wrong = wrong_in_dealing(program, dealing)
    if wrong is not None:
        raise BadDealing(wrong)


def number_by(form, round_at):
    """The NUMBER of a ROUND by a FORM."""
    modulus, terms = form
    statement, place = round_at
    row, shift = terms[statement]
    return remainder(weighted(row, place) + shift, modulus)


def hand_by(dealing, round_at):
    """The HAND of a ROUND by a DEALING."""
    return tuple([number_by(form, round_at) for form in dealing])


def number(program, form, round_at):
    """The NUMBER of a ROUND by a FORM."""
    need_program(program)
    need_form(program, form)
    need_round(program, round_at)
    return number_by(form, round_at)


def hand(program, dealing, round_at):
    """The HAND of a ROUND by a DEALING."""
    need_program(program)
    need_dealing(program, dealing)
    need_round(program, round_at)
    return hand_by(dealing, round_at)


def are_alike(row, far_row, modulus):
    """Whether both ROWS count alike by a MODULUS."""
    if row == far_row:
        return True
    if modulus == 0:
        return False
    for factor, far in zip(row, far_row):
        if (factor - far) % modulus != 0:
            return False
    return True


def do_agree(form, found):
    """Whether all ROUNDS that meet by the ties have the same NUMBER."""
    modulus, terms = form
    for one, other, step in found:
        row, shift = terms[one]
        far_row, far_shift = terms[other]
        if remainder(weighted(far_row, step) + far_shift - shift, modulus) != 0:
            return False
        if not are_alike(row, far_row, modulus):
            return False
    return True


def do_all_agree(dealing, found):
    """Whether each FORM keeps the LOT with the ties."""
    for form in dealing:
        if not do_agree(form, found):
            return False
    return True


def does_keep(program, lot, form):
    """Whether a FORM keeps a LOT."""
    need_program(program)
    need_lot(program, lot)
    need_form(program, form)
    return do_agree(form, ties(program, lot))


def group_form(program, leads):
    """The FORM by which each ROUND has the number of the least statement of its group."""
    still = (0,) * program[0]
    return 0, tuple([(still, least) for least in leads])


def step_form(program, parts, least, modulus, row):
    """The FORM that numbers the ROUNDS of the group with this least statement by a ROW,
    tied ones alike (the parts are what the ties lead to), and all others 0."""
    leads, places, _ = parts
    still = ((0,) * program[0], 0)
    return modulus, tuple([(row, -weighted(row, place)) if lead == least else still
                           for lead, place in zip(leads, places)])


def finest(program, lot):
    """A finest DEALING: a FORM for each coordinate beside the lattice of each group, and
    one that tells groups apart, if there are several."""
    need_program(program)
    need_lot(program, lot)
    parts = joined(program, ties(program, lot))
    leads, _, rings = parts
    forms = []
    if any(leads):
        forms.append(group_form(program, leads))
    for statement, least in enumerate(leads):
        if statement == least:
            for factor, row in coordinates(hermite(rings[least]), program[0]):
                if factor != 1:
                    forms.append(step_form(program, parts, least, factor, row))
    return tuple(forms)


def need_dealt(program, lot, dealing):
    """Raises what is wrong of the arguments that tell a DEALING, the first one first."""
    need_program(program)
    need_lot(program, lot)
    need_dealing(program, dealing)


def is_right(program, lot, dealing):
    """Whether a DEALING is right for a LOT."""
    need_dealt(program, lot, dealing)
    return do_all_agree(dealing, ties(program, lot))


def steps_within(program, dealing, statement):
    """The BASIS of all steps of a statement that lead to the same HAND."""
    steps = units(program[0])
    for modulus, terms in dealing:
        steps = agreeing(steps, terms[statement][0], modulus)
    return steps


def does_tell(form, one, other):
    """Whether the FORM alone gives no ROUNDS of the two statements the same NUMBER."""
    modulus, terms = form
    row, shift = terms[one]
    far_row, far_shift = terms[other]
    common = modulus
    for factor in row + far_row:
        common = gcd(common, factor)
    return remainder(shift - far_shift, common) != 0


def do_share(program, dealing, one, other):
    """Whether some ROUND of the one statement has the HAND of one of the other."""
    for form in dealing:
        if does_tell(form, one, other):
            return False
    # Each row is 1, the one's PLACE and the other's, all so many times; what is left are
    # all rows with the same HAND, and the first of them has 1 again if this can be.
    rows = units(1 + 2 * program[0])
    for modulus, terms in dealing:
        row, shift = terms[one]
        far_row, far_shift = terms[other]
        weights = (shift - far_shift,) + row + tuple([-factor for factor in far_row])
        rows = agreeing(rows, weights, modulus)
        if not rows or rows[0][0] != 1:
            return False
    return True


def is_finest(program, lot, dealing):
    """Whether a DEALING is right for a LOT, and no ROUNDS but tied ones have the same HAND."""
    need_dealt(program, lot, dealing)
    found = ties(program, lot)
    if not do_all_agree(dealing, found):
        return False
    # By a right one, each HAND of a group is that of a ROUND of its least statement.
    leads, _, rings = joined(program, found)
    firsts = [statement for statement, least in enumerate(leads) if statement == least]
    for spot, statement in enumerate(firsts):
        if steps_within(program, dealing, statement) != hermite(rings[statement]):
            return False
        for far in firsts[:spot]:
            if do_share(program, dealing, far, statement):
                return False
    return True

"""What is sent with a DEALING in a BOX, and how many pairs of ROUNDS a FORM breaks."""

from owncells.errors import BadBox, BadForm, TooGreat
from owncells.forms import hand_by, need_dealing, need_form, number_by, rest_of
from owncells.hands import need_box, need_few_rounds, rounds_in
from owncells.matrices import multiplied
from owncells.programs import have_common, is_between, is_tuple, need_lot, need_program, touched_of

MOST_SIDE = 20
MOST_STEPS = 5000


def hands_at(program, lot, dealing, box):
    """A dict from each CELL of an array of the LOT that is touched in the BOX to a dict of
    the HANDS of the ROUNDS there that touch it."""
    found = {}
    for round_at in rounds_in(program, box):
        told = hand_by(dealing, round_at)
        for cell in touched_of(program, lot, round_at):
            hands = found.setdefault(cell, {})
            hands[told] = True
    return found


def need_dealt(program, lot, dealing, box):
    """Raises what is wrong of the arguments that tell a dealt BOX, the first one first."""
    need_program(program)
    need_lot(program, lot)
    need_dealing(program, dealing)
    need_box(program, box)
    need_few_rounds(program, box)


def shared(program, lot, dealing, box):
    """The ascending tuple of the CELLS of arrays of the LOT that are shared."""
    need_dealt(program, lot, dealing, box)
    found = hands_at(program, lot, dealing, box)
    return tuple(sorted([cell for cell, hands in found.items() if len(hands) > 1]))


def sent(program, lot, dealing, box):
    """How often CELLS of arrays of the LOT are sent, all together."""
    need_dealt(program, lot, dealing, box)
    return sum([len(hands) - 1 for hands in hands_at(program, lot, dealing, box).values()])


def has_even_rows(program, form):
    """Whether a FORM is even."""
    return all([rest_of(form, statement) == rest_of(form, 0) for statement in range(len(program[2]))])


def is_even(program, form):
    """Whether a FORM is even."""
    need_program(program)
    need_form(program, form)
    return has_even_rows(program, form)


def need_sides(program, sides):
    """Raises BadBox if they are no SIDES."""
    if not is_tuple(sides, program[0]) or not all([is_between(side, 1, MOST_SIDE) for side in sides]):
        raise BadBox(sides)


def need_few_steps(sides):
    """Raises TooGreat if ROUNDS in a BOX differ by more steps than are gone through."""
    if multiplied([2 * side - 1 for side in sides]) > MOST_STEPS:
        raise TooGreat(MOST_STEPS)


def meetings(program, lot, sides):
    """A list of triples: a ROUND at (0, ..), a greater one that it meets, and how many pairs
    of ROUNDS in a BOX with these SIDES are both moved alike."""
    start = (0,) * program[0]
    near = [touched_of(program, lot, (one, start)) for one in range(len(program[2]))]
    found = []
    for other, step in rounds_in(program, [(1 - side, side - 1) for side in sides]):
        far = touched_of(program, lot, (other, step))
        many = multiplied([side - abs(part) for side, part in zip(sides, step)])
        for one in range(other + 1):
            if (one, start) < (other, step) and have_common(near[one], far):
                found.append(((one, start), (other, step), many))
    return found


def meeting_pairs(program, lot, sides):
    """How many pairs of ROUNDS in a BOX with these SIDES meet."""
    need_program(program)
    need_lot(program, lot)
    need_sides(program, sides)
    need_few_steps(sides)
    return sum([many for _, _, many in meetings(program, lot, sides)])


def broken_pairs(program, lot, form, sides):
    """How many pairs of ROUNDS in a BOX with these SIDES an even FORM breaks."""
    need_program(program)
    need_lot(program, lot)
    need_form(program, form)
    if not has_even_rows(program, form):
        raise BadForm(form)
    need_sides(program, sides)
    need_few_steps(sides)
    return sum([many for one, other, many in meetings(program, lot, sides)
                if number_by(form, one) != number_by(form, other)])

"""What is sent with a DEALING in a BOX, and how many pairs of ROUNDS a FORM breaks."""

from owncells.errors import BadForm
from owncells.forms import are_alike, need_dealing, need_form
from owncells.hands import many_places, need_box, need_few_rounds
from owncells.matrices import remainder, weighted
from owncells.meetings import meetings, need_few_steps, need_sides
from owncells.programs import need_lot, need_program


def numbers_in(row, shift, box):
    """A list of what a row and a shift make of all PLACES in a BOX, ascending."""
    numbers = [shift]
    for factor, (low, high) in zip(row, box):
        parts = [factor * part for part in range(low, high + 1)]
        numbers = [number + part for number in numbers for part in parts]
    return numbers


def spots_in(matrix, offset, box):
    """A list of the SPOTS that a reference touches from all PLACES in a BOX, ascending."""
    columns = [numbers_in(row, shift, box) for row, shift in zip(matrix, offset)]
    return list(zip(*columns))


def hands_from(dealing, statement, box):
    """A list of the HANDS of a statement's ROUNDS at all PLACES in a BOX, ascending."""
    columns = []
    for modulus, terms in dealing:
        row, shift = terms[statement]
        columns.append([remainder(whole, modulus) for whole in numbers_in(row, shift, box)])
    if not columns:
        return [()] * many_places(box)
    return list(zip(*columns))


def touches(program, lot, box):
    """A list of pairs, one for each reference to an array of the LOT: its statement, and a
    list of the CELLS that it touches from all PLACES in a BOX, ascending."""
    _, arrays, statements = program
    return [(statement, [(array, spot) for spot in spots_in(arrays[array], offset, box)])
            for statement, references in enumerate(statements)
            for array, offset, _ in references if array in lot]


def hands_at(program, touched, dealing, box):
    """A dict from each CELL that is touched in the BOX, as touches told, to a dict of the
    HANDS of the ROUNDS there that touch it."""
    hands = [hands_from(dealing, statement, box) for statement in range(len(program[2]))]
    found = {}
    for statement, cells in touched:
        for cell, told in zip(cells, hands[statement]):
            if cell in found:
                found[cell][told] = True
            else:
                found[cell] = {told: True}
    return found


def many_sent(holders):
    """How often CELLS are sent, all together, by the dict of those that hands_at told."""
    return sum([len(hands) for hands in holders.values()]) - len(holders)


def need_dealt(program, lot, dealing, box):
    """Raises what is wrong of the arguments that tell a dealt BOX, the first one first."""
    need_program(program)
    need_lot(program, lot)
    need_dealing(program, dealing)
    need_box(program, box)
    need_few_rounds(program, box)


def shared(program, lot, dealing, box):
    """The ascending tuple of the CELLS of arrays of the LOT that are shared."""
    need_dealt(program, lot, dealing, box)
    found = hands_at(program, touches(program, lot, box), dealing, box)
    return tuple(sorted([cell for cell, hands in found.items() if len(hands) > 1]))


def sent(program, lot, dealing, box):
    """How often CELLS of arrays of the LOT are sent, all together."""
    need_dealt(program, lot, dealing, box)
    return many_sent(hands_at(program, touches(program, lot, box), dealing, box))


def has_even_rows(form):
    """Whether a FORM is even."""
    modulus, terms = form
    first = terms[0][0]
    for row, _ in terms:
        if not are_alike(row, first, modulus):
            return False
    return True


def is_even(program, form):
    """Whether a FORM is even."""
    need_program(program)
    need_form(program, form)
    return has_even_rows(form)


def meeting_pairs(program, lot, sides):
    """How many pairs of ROUNDS in a BOX with these SIDES meet."""
    need_program(program)
    need_lot(program, lot)
    need_sides(program, sides)
    need_few_steps(sides)
    return sum([many for _, _, _, many in meetings(program, lot, sides)])


def broken_pairs(program, lot, form, sides):
    """How many pairs of ROUNDS in a BOX with these SIDES an even FORM breaks."""
    need_program(program)
    need_lot(program, lot)
    need_form(program, form)
    if not has_even_rows(form):
        raise BadForm(form)
    need_sides(program, sides)
    need_few_steps(sides)
    modulus, terms = form
    return sum([many for one, other, step, many in meetings(program, lot, sides)
                if remainder(weighted(terms[0][0], step) + terms[other][1] - terms[one][1], modulus) != 0])

"""PROGRAMS, the CELLS that their ROUNDS touch, and the checks of what is passed."""

from owncells.errors import BadLot, BadNumber, BadProgram, BadRound
from owncells.matrices import weighted

MOST_DEPTH = 3
MOST_ROWS = 3
MOST_THINGS = 4
MOST_FACTOR = 4
MOST_OFFSET = 9
KINDS = ("read", "write")


def is_integer(thing):
    """Whether it is an integer; for Python True and False are ints, here they are none."""
    return isinstance(thing, int) and not isinstance(thing, bool)


def is_between(thing, low, high):
    """Whether it is an integer from low to high."""
    return is_integer(thing) and low <= thing <= high


def is_number(thing, many):
    """Whether it is the number of one of so many things."""
    return is_between(thing, 0, many - 1)


def is_tuple(thing, many):
    """Whether it is a tuple of just so many things."""
    return isinstance(thing, tuple) and len(thing) == many


def is_few(thing, most):
    """Whether it is a tuple of one thing to so many."""
    return isinstance(thing, tuple) and 1 <= len(thing) <= most


def is_row(thing, many, most):
    """Whether it is a tuple of so many integers, none of them farther from 0 than most."""
    if not isinstance(thing, tuple) or len(thing) != many:
        return False
    for part in thing:
        # Each integer that is passed comes by here, so this asks no further function.
        if not isinstance(part, int) or part is True or part is False or not -most <= part <= most:
            return False
    return True


def is_place(thing, depth):
    """Whether it is a PLACE."""
    if not isinstance(thing, tuple) or len(thing) != depth:
        return False
    for part in thing:
        if not isinstance(part, int) or part is True or part is False:
            return False
    return True


def is_matrix(thing, depth):
    """Whether it is the matrix of an array."""
    if not is_few(thing, MOST_ROWS):
        return False
    for row in thing:
        if not is_row(row, depth, MOST_FACTOR):
            return False
    return True


def is_reference(thing, arrays):
    """Whether it is a reference to one of these arrays."""
    if not isinstance(thing, tuple) or len(thing) != 3:
        return False
    array, offset, kind = thing
    if not is_number(array, len(arrays)):
        return False
    return is_row(offset, len(arrays[array]), MOST_OFFSET) and kind in KINDS


def wrong_in_statement(thing, arrays):
    """The way to the first thing that is wrong: () or (spot,), or None for a statement."""
    if not is_few(thing, MOST_THINGS):
        return ()
    for spot, reference in enumerate(thing):
        if not is_reference(reference, arrays):
            return (spot,)
    return None


def wrong_in_arrays(depth, arrays):
    """The place of the first thing that is wrong, or None for ARRAYS."""
    if not is_few(arrays, MOST_THINGS):
        return (1,)
    for number, matrix in enumerate(arrays):
        if not is_matrix(matrix, depth):
            return 1, number
    return None


def wrong_in_statements(arrays, statements):
    """The place of the first thing that is wrong, or None for STATEMENTS over the arrays."""
    if not is_few(statements, MOST_THINGS):
        return (2,)
    for number, references in enumerate(statements):
        wrong = wrong_in_statement(references, arrays)
        if wrong is not None:
            return (2, number) + wrong
    return None


def wrong_in_program(thing):
    """The place of the first thing that is wrong, or None for a PROGRAM."""
    if not is_tuple(thing, 3):
        return ()
    depth, arrays, statements = thing
    if not is_between(depth, 1, MOST_DEPTH):
        return (0,)
    wrong = wrong_in_arrays(depth, arrays)
    if wrong is not None:
        return wrong
    return wrong_in_statements(arrays, statements)


def need_program(thing):
    """The PROGRAM itself; BadProgram tells the place of the first thing that is wrong."""
    wrong = wrong_in_program(thing)
    if wrong is not None:
        raise BadProgram(wrong)
    return thing


def is_lot(program, thing):
    """Whether it is a LOT: numbers of arrays, each greater than the one ahead."""
    if not isinstance(thing, tuple):
        return False
    least = 0
    for number in thing:
        if not is_between(number, least, len(program[1]) - 1):
            return False
        least = number + 1
    return True


def need_lot(program, lot):
    """Raises BadLot if it is no LOT of the PROGRAM."""
    if not is_lot(program, lot):
        raise BadLot(lot)


def need_statement(program, statement):
    """Raises BadNumber if it is no number of a statement of the PROGRAM."""
    if not is_number(statement, len(program[2])):
        raise BadNumber(statement)


def is_round(program, thing):
    """Whether it is a ROUND of the PROGRAM."""
    if not is_tuple(thing, 2):
        return False
    statement, place = thing
    return is_number(statement, len(program[2])) and is_place(place, program[0])


def need_round(program, round_at):
    """Raises BadRound if it is no ROUND of the PROGRAM."""
    if not is_round(program, round_at):
        raise BadRound(round_at)


def touched(program, round_at):
    """A list of the CELL that each reference of a ROUND touches, so perhaps alike ones."""
    statement, place = round_at
    found = []
    for array, offset, _ in program[2][statement]:
        matrix = program[1][array]
        spot = [weighted(row, place) + shift for row, shift in zip(matrix, offset)]
        found.append((array, tuple(spot)))
    return found


def cells(program, round_at):
    """The ascending tuple of the CELLS that a ROUND touches, each once."""
    need_program(program)
    need_round(program, round_at)
    return tuple(sorted(set(touched(program, round_at))))


def touched_of(program, lot, round_at):
    """A list of the CELLS of arrays of the LOT among those that a ROUND touches."""
    return [cell for cell in touched(program, round_at) if cell[0] in lot]


def have_common(near, far):
    """Whether some thing is in both lists."""
    return any([thing in near for thing in far])


def do_meet(program, lot, one, other):
    """Whether both ROUNDS touch some CELL of an array of the LOT."""
    need_program(program)
    need_lot(program, lot)
    need_round(program, one)
    need_round(program, other)
    return have_common(touched_of(program, lot, one), touched_of(program, lot, other))


def written(program):
    """The LOT of the arrays to which some reference writes."""
    need_program(program)
    return tuple(sorted({array for references in program[2]
                         for array, _, kind in references if kind == "write"}))

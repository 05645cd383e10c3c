"""SHIFTS: for a ROW and a MODULUS, those by which the fewest pairs of ROUNDS are broken."""

from owncells.errors import BadNumber, BadRow
from owncells.matrices import weighted
from owncells.meetings import meetings, need_few_steps, need_sides
from owncells.programs import is_between, is_row, need_lot, need_program

MOST_FACTOR = 20
LEAST_MODULUS = 2
MOST_MODULUS = 12


def need_told(program, lot, row, modulus, sides):
    """Raises what is wrong of the arguments, the first one first."""
    need_program(program)
    need_lot(program, lot)
    if not is_row(row, program[0], MOST_FACTOR):
        raise BadRow(row)
    if not is_between(modulus, LEAST_MODULUS, MOST_MODULUS):
        raise BadNumber(modulus)
    need_sides(program, sides)
    need_few_steps(sides)


def kept_by(program, found, row, modulus):
    """For each statement a list, for each one up to it, of lists: how many of the pairs of
    ROUNDS of both that meet have the same NUMBER, by each SHIFT of the one less that of
    this statement."""
    kept = [[[0] * modulus for _ in range(last + 1)] for last in range(len(program[2]))]
    for one, other, step, pairs in found:
        kept[other][one][weighted(row, step) % modulus] += pairs
    return kept


def gains(rows, chosen, modulus):
    """A list for each SHIFT of the next statement: how many pairs are kept by it beside
    the SHIFTS that were chosen. The rows are those of this statement, as kept_by told."""
    return [sum([row[(shift - by) % modulus] for row, shift in zip(rows, chosen)]) for by in range(modulus)]


def most_left(kept):
    """A list: how many pairs are kept at the most by each statement and all behind it, of
    those with a statement ahead."""
    left = [0]
    for rows in reversed(kept):
        left.append(left[-1] + sum([max(row) for row in rows[:-1]]))
    left.reverse()
    return left


def best(kept, left, modulus, chosen, many, known):
    """The better one of what is known and the best that begins with the chosen SHIFTS, by
    which so many pairs are kept: a pair of how many are kept, and of the SHIFTS. Of those
    with as many, what is known, or comes first, is better."""
    at = len(chosen)
    if at == len(kept):
        return many, chosen
    for shift, gain in enumerate(gains(kept[at], chosen, modulus)):
        if many + gain + left[at + 1] > known[0]:
            known = best(kept, left, modulus, chosen + (shift,), many + gain, known)
    return known


def best_by(program, found, row, modulus):
    """The pair of how many pairs of ROUNDS with unlike places are kept at the most, and of
    the first SHIFTS by which so many are, by the meetings that were found."""
    kept = kept_by(program, found, row, modulus)
    own = sum([rows[-1][0] for rows in kept])
    return best(kept, most_left(kept), modulus, (0,), own, (-1, ()))


def least_broken(program, lot, row, modulus, sides):
    """The least number of broken pairs by any SHIFTS."""
    need_told(program, lot, row, modulus, sides)
    found = meetings(program, lot, sides)
    kept, _ = best_by(program, found, row, modulus)
    return sum([many for _, _, _, many in found]) - kept


def best_shifts(program, lot, row, modulus, sides):
    """The first SHIFTS with the least number of broken pairs."""
    need_told(program, lot, row, modulus, sides)
    _, shifts = best_by(program, meetings(program, lot, sides), row, modulus)
    return shifts

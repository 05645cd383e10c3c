"""Groups of joined statements, and the lattices of the steps between tied ROUNDS.

A *tie* is a triple (ONE, OTHER, STEP): each ROUND of the statement ONE meets that of OTHER
whose PLACE is its PLACE and STEP together. All ROUNDS that meet do so by ties in a row.
"""

from owncells.matrices import (
    coordinates, divisors, hermite, kernel, plus, reduced, solution, tagged, transposed)
from owncells.programs import is_place, need_lot, need_program, need_statement


def uses(program, array):
    """A list of pairs: the statement and the OFFSET of each reference to the array."""
    return [(number, reference[1]) for number, references in enumerate(program[2])
            for reference in references if reference[0] == array]


def ties_by(program, array):
    """A list of ties by one array: the steps between each two references, and those that
    keep the cell of one."""
    matrix = program[1][array]
    rows = tagged(transposed(matrix))
    keeping = kernel(rows, len(matrix))
    near_and_far = uses(program, array)
    found = []
    for one, near in near_and_far:
        found.extend([(one, one, step) for step in keeping])
        for other, far in near_and_far:
            step = solution(rows, plus(near, far, -1), program[0])
            if step is not None:
                found.append((one, other, step))
    return found


def ties(program, lot):
    """A list of ties by the LOT; for each one there is one that leads back."""
    return [tie for array in lot for tie in ties_by(program, array)]


def chains(program, found, start):
    """A dict from each statement of the group of start to a CHAIN: ROUNDS from that of
    start at (0, ..) to one of this statement, each next one meeting the one ahead."""
    led = {start: ((start, (0,) * program[0]),)}
    waiting = [start]
    while waiting:
        near = waiting.pop()
        for one, other, step in found:
            if one == near and other not in led:
                led[other] = led[near] + ((other, plus(led[near][-1][1], step, 1)),)
                waiting.append(other)
    return led


def spread(program, found, start):
    """A dict from each statement of the group of start to a PLACE there: its ROUND is tied
    with that of start at (0, ..)."""
    return {statement: chain[-1][1] for statement, chain in chains(program, found, start).items()}


def rings(places, found):
    """A list of the steps of all rings: from a statement's PLACE by a tie, and back."""
    return [plus(plus(places[one], step, 1), places[other], -1)
            for one, other, step in found if one in places]


def need_group(program, lot, statement):
    """Raises what is wrong of the arguments that tell a group, the first one first."""
    need_program(program)
    need_lot(program, lot)
    need_statement(program, statement)


def groups(program, lot):
    """The ascending tuple of all groups."""
    need_program(program)
    need_lot(program, lot)
    found = ties(program, lot)
    return tuple(sorted({tuple(sorted(spread(program, found, number)))
                         for number in range(len(program[2]))}))


def basis(program, lot, statement):
    """The BASIS of the lattice of the statement's group."""
    need_group(program, lot, statement)
    found = ties(program, lot)
    return hermite(rings(spread(program, found, statement), found))


def ways_apart(program, lot, statement):
    """The ways apart of the statement's group: (FREE, FACTORS)."""
    steps = basis(program, lot, statement)
    factors = [factor for factor, _ in coordinates(steps, program[0])]
    parts = divisors([factor for factor in factors if factor > 0])
    return program[0] - len(steps), tuple([part for part in parts if part > 1])


def is_step(program, lot, statement, place):
    """Whether any value is a PLACE in the lattice of the statement's group."""
    steps = basis(program, lot, statement)
    return is_place(place, program[0]) and not any(reduced(place, steps))

"""Groups of joined statements, and the lattices of the steps between tied ROUNDS.

A *tie* is a triple (ONE, OTHER, STEP): each ROUND of the statement ONE meets that of OTHER
whose PLACE is its PLACE and STEP together. All tied ROUNDS are so by ties in a row, taken
forth or back.
"""

from owncells.matrices import coordinates, divisors, hermite, less, plus, reduced, transposed, units
from owncells.programs import is_place, need_lot, need_program, need_statement


def sight(matrix, depth):
    """A pair of lists of rows that tell what a matrix makes of PLACES: stepped SPOTS with
    a PLACE behind each that gives it, and stepped PLACES that give nothing."""
    rows = hermite([column + unit for column, unit in zip(transposed(matrix), units(depth))])
    many = len(matrix)
    seen = [row for row in rows if any(row[:many])]
    return seen, [row[many:] for row in rows[len(seen):]]


def uses(program, lot):
    """A list of pairs, one for each lot of references that touch common CELLS of an array
    of the LOT: a list of pairs of a statement and a PLACE, the ROUNDS at these PLACES
    touching one CELL; and the stepped list of steps that keep it."""
    depth, arrays, statements = program
    start = (0,) * depth
    sights = {array: sight(arrays[array], depth) for array in lot}
    found = {}
    for statement, references in enumerate(statements):
        for array, offset, _ in references:
            if array in sights:
                seen, keeping = sights[array]
                # OFFSETS leave the same rest just if some ROUNDS touch a common CELL.
                rest = reduced(offset + start, seen)
                many = len(offset)
                same, _ = found.setdefault((array, rest[:many]), ([], keeping))
                same.append((statement, rest[many:]))
    return list(found.values())


def ties(program, lot):
    """A list of ties by the LOT: from the first of all references that touch common CELLS
    to each other one, and by the steps that keep these CELLS."""
    found = []
    for same, keeping in uses(program, lot):
        one, near = same[0]
        found.extend([(one, one, step) for step in keeping])
        found.extend([(one, other, less(far, near)) for other, far in same[1:]])
    return found


def joined(program, found):
    """What the ties lead to, as three lists. For each statement: the least one of its
    group; a PLACE of it, whose ROUND is tied with that of the least one at (0, ..); and, if
    it is a least one, a list of steps, the lattice being all sums of their multiples."""
    many = len(program[2])
    leads = list(range(many))
    places = [(0,) * program[0]] * many
    rings = [[] for _ in range(many)]
    for one, other, step in found:
        least, lead = leads[one], leads[other]
        around = less(plus(places[one], step, 1), places[other])
        if least == lead:
            rings[least].append(around)
            continue
        if least > lead:
            least, lead, around = lead, least, less(places[other], plus(places[one], step, 1))
        rings[least].extend(rings[lead])
        for statement in range(many):
            if leads[statement] == lead:
                leads[statement] = least
                places[statement] = plus(places[statement], around, 1)
    return leads, places, rings


def groups_by(leads):
    """The ascending tuple of all groups, by the least one of each statement's group."""
    found = {}
    for statement, least in enumerate(leads):
        found.setdefault(least, []).append(statement)
    return tuple([tuple(group) for group in found.values()])


def groups(program, lot):
    """The ascending tuple of all groups."""
    need_program(program)
    need_lot(program, lot)
    leads, _, _ = joined(program, ties(program, lot))
    return groups_by(leads)


def basis(program, lot, statement):
    """The BASIS of the lattice of the statement's group."""
    need_program(program)
    need_lot(program, lot)
    need_statement(program, statement)
    leads, _, rings = joined(program, ties(program, lot))
    return hermite(rings[leads[statement]])


def ways_apart(program, lot, statement):
    """The ways apart of the statement's group: (FREE, FACTORS)."""
    steps = basis(program, lot, statement)
    factors = [factor for factor, _ in coordinates(steps, program[0])]
    parts = divisors([factor for factor in factors if factor > 0])
    return program[0] - len(steps), tuple([part for part in parts if part > 1])


def is_step(program, lot, statement, place):
    """Whether any value is a PLACE in the lattice of the statement's group."""
    steps = basis(program, lot, statement)
    return is_place(place, program[0]) and not any(reduced(place, steps))

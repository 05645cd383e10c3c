"""HEADS, by which tied ROUNDS are known, and how many hands there are."""

from owncells.errors import BadBox, TooGreat
from owncells.lattices import joined, ties
from owncells.matrices import hermite, less, multiplied, reduced
from owncells.programs import is_place, is_tuple, need_lot, need_program, need_round

MOST_ROUNDS = 4000


def is_span(thing):
    """Whether it is a pair (LOW, HIGH) of integers, LOW no greater."""
    return is_place(thing, 2) and thing[0] <= thing[1]


def is_box(program, thing):
    """Whether it is a BOX of the PROGRAM."""
    return is_tuple(thing, program[0]) and all([is_span(span) for span in thing])


def need_box(program, box):
    """Raises BadBox if it is no BOX of the PROGRAM."""
    if not is_box(program, box):
        raise BadBox(box)


def many_places(box):
    """How many PLACES there are in a BOX."""
    return multiplied([high - low + 1 for low, high in box])


def many_rounds(program, box):
    """How many ROUNDS there are in a BOX."""
    return len(program[2]) * many_places(box)


def need_few_rounds(program, box):
    """Raises TooGreat if there are more ROUNDS in a BOX than are gone through."""
    if many_rounds(program, box) > MOST_ROUNDS:
        raise TooGreat(MOST_ROUNDS)


def places_in(box):
    """A list of all PLACES in a BOX, ascending."""
    places = [()]
    for low, high in box:
        parts = [(part,) for part in range(low, high + 1)]
        places = [place + part for place in places for part in parts]
    return places


def head(program, lot, round_at):
    """The HEAD of a ROUND."""
    need_program(program)
    need_lot(program, lot)
    need_round(program, round_at)
    statement, place = round_at
    leads, places, rings = joined(program, ties(program, lot))
    least = leads[statement]
    return least, reduced(less(place, places[statement]), hermite(rings[least]))


def step_between(places, one, other):
    """The step from the one ROUND to the other, both led to the least statement of their
    group by the places of it."""
    return less(less(other[1], places[other[0]]), less(one[1], places[one[0]]))


def are_tied(program, lot, one, other):
    """Whether two ROUNDS are tied."""
    need_program(program)
    need_lot(program, lot)
    need_round(program, one)
    need_round(program, other)
    leads, places, rings = joined(program, ties(program, lot))
    least = leads[one[0]]
    if leads[other[0]] != least:
        return False
    return not any(reduced(step_between(places, one, other), hermite(rings[least])))


def hands_by(program, found):
    """How many hands there are of all groups by the ties, or None for endlessly many."""
    leads, _, rings = joined(program, found)
    many = 0
    for statement, least in enumerate(leads):
        if statement == least:
            steps = hermite(rings[least])
            if len(steps) < program[0]:
                return None
            # Of as many stepped rows as columns, each has its own column.
            many = many + multiplied([step[column] for column, step in enumerate(steps)])
    return many


def many_hands(program, lot):
    """How many hands there are of all groups, or None for endlessly many."""
    need_program(program)
    need_lot(program, lot)
    return hands_by(program, ties(program, lot))


def turned(row, column):
    """The row, what was at the column being at the end."""
    return row[:column] + row[column + 1:] + row[column:column + 1]


def add_runs(runs, steps, box):
    """Adds the hands of all PLACES in a BOX to a dict of runs: from all of a PLACE but the
    last integer to the spans of this one, each beside the stepped rows."""
    low, high = box[-1]
    for place in places_in(box[:-1]):
        rest = reduced(place + (0,), steps)
        runs.setdefault(rest[:-1], []).append((low + rest[-1], high + rest[-1]))


def folded(spans, modulus):
    """A list of spans of the remainders by the modulus that the spans have."""
    found = []
    for low, high in spans:
        if high - low + 1 >= modulus:
            return [(0, modulus - 1)]
        first, last = low % modulus, high % modulus
        if first <= last:
            found.append((first, last))
        else:
            found.extend([(0, last), (first, modulus - 1)])
    return found


def many_in(spans):
    """How many integers there are in spans."""
    if len(spans) == 1:
        return spans[0][1] - spans[0][0] + 1
    many = 0
    ahead = None
    for low, high in sorted(spans):
        if ahead is None or low > ahead:
            many, ahead = many + high - low + 1, high
        elif high > ahead:
            many, ahead = many + high - ahead, high
    return many


def hands_of(rings, boxes):
    """How many hands of a group have a ROUND in boxes of its least statement."""
    steps = hermite(rings)
    modulus = 0
    # A step by the last column alone leads from an integer there to all with its remainder.
    if steps and not any(steps[-1][:-1]):
        modulus, steps = steps[-1][-1], steps[:-1]
    runs = {}
    for box in boxes:
        add_runs(runs, steps, box)
    if modulus > 0:
        return sum([many_in(folded(spans, modulus)) for spans in runs.values()])
    return sum([many_in(spans) for spans in runs.values()])


def moved(box, place):
    """The BOX less a PLACE."""
    return tuple([(low - part, high - part) for (low, high), part in zip(box, place)])


def hands_in(program, lot, box):
    """How many hands have a ROUND in a BOX."""
    need_program(program)
    need_lot(program, lot)
    need_box(program, box)
    need_few_rounds(program, box)
    sides = [high - low for low, high in box]
    # Runs along the longest side are the fewest.
    column = sides.index(max(sides))
    leads, places, rings = joined(program, ties(program, lot))
    many = 0
    for least in range(len(leads)):
        if leads[least] == least:
            boxes = [turned(moved(box, place), column) for lead, place in zip(leads, places) if lead == least]
            many = many + hands_of([turned(ring, column) for ring in rings[least]], boxes)
    return many

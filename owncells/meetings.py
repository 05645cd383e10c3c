"""Which ROUNDS in a BOX with told SIDES meet, wherever it begins: by their steps."""

from owncells.errors import BadBox, TooGreat
from owncells.lattices import uses
from owncells.matrices import less, multiplied, plus, reduced
from owncells.programs import is_between, is_tuple

MOST_SIDE = 20
MOST_STEPS = 5000


def need_sides(program, sides):
    """Raises BadBox if they are no SIDES."""
    if not is_tuple(sides, program[0]) or not all([is_between(side, 1, MOST_SIDE) for side in sides]):
        raise BadBox(sides)


def need_few_steps(sides):
    """Raises TooGreat if ROUNDS in a BOX differ by more steps than are gone through."""
    if multiplied([2 * side - 1 for side in sides]) > MOST_STEPS:
        raise TooGreat(MOST_STEPS)


def lines_by(near_and_far, keeping):
    """A list of triples: two statements, the second one no less, and a least step from the
    one to the other, by the same CELL; further ones by the steps that keep it."""
    return [(one, other, reduced(less(far, near), keeping))
            for one, near in near_and_far for other, far in near_and_far if one <= other]


def lines(program, lot):
    """A dict from each two statements, the second one no less, of which ROUNDS meet, to a
    dict of all lines of steps by which they do: pairs of a step and of steps beside it."""
    found = {}
    for near_and_far, keeping in uses(program, lot):
        for one, other, step in lines_by(near_and_far, keeping):
            both = found.setdefault((one, other), {})
            both[(step, tuple(keeping))] = True
    return found


def many_pairs(step, sides):
    """How many pairs of PLACES in a BOX with these SIDES differ by the step."""
    many = 1
    for part, side in zip(step, sides):
        if abs(part) >= side:
            return 0
        many = many * (side - abs(part))
    return many


def steps_on(line, sides):
    """A list of pairs: a step of a line by which ROUNDS in a BOX with these SIDES differ,
    and how many pairs of PLACES there do."""
    start, keeping = line
    steps = [start]
    column = 0
    for by in keeping:
        while by[column] == 0:
            column += 1
        most, part = sides[column] - 1, by[column]
        # What the next ones add leaves this column, and all ahead, as they are.
        steps = [plus(step, by, times) for step in steps
                 for times in range(-((step[column] + most) // part), (most - step[column]) // part + 1)]
    counted = [(step, many_pairs(step, sides)) for step in steps]
    return [pair for pair in counted if pair[1] > 0]


def meetings(program, lot, sides):
    """A list of quadruples: two statements, the second one no less, a step from a ROUND of
    the one to a ROUND of the other that meets it, and how many such pairs there are in a
    BOX with these SIDES."""
    start = (0,) * program[0]
    found = []
    told = {}
    for pair, those in lines(program, lot).items():
        for line in those:
            if line not in told:
                told[line] = steps_on(line, sides)
        one, other = pair
        # By several lines, each step counts once; of two ROUNDS of one statement, it is told
        # from the lesser one alone.
        steps = {step: many for line in those for step, many in told[line]}
        found.extend([(one, other, step, many) for step, many in steps.items() if one < other or step > start])
    return found

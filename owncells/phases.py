"""Phases in a row: a DEALING for each of them, chosen at the least COST."""

from owncells.errors import BadChoice, BadNumber, BadPaper, BadPlan
from owncells.forms import wrong_in_dealing
from owncells.hands import is_box, many_rounds
from owncells.programs import is_few, is_integer, is_number, is_tuple, wrong_in_program
from owncells.sending import hands_at, many_sent, touches

MOST_PHASES = 4
MOST_DEALINGS = 4
MOST_ROUNDS = 1000


def wrong_in_dealings(program, thing):
    """The way to the first thing that is wrong: () or (number,), or None for DEALINGS."""
    if not is_few(thing, MOST_DEALINGS):
        return ()
    for number, dealing in enumerate(thing):
        if wrong_in_dealing(program, dealing) is not None:
            return (number,)
    return None


def wrong_in_phase(thing):
    """The way to the first thing that is wrong, or None for a phase."""
    if not is_tuple(thing, 3):
        return ()
    program, dealings, box = thing
    if wrong_in_program(program) is not None:
        return (0,)
    wrong = wrong_in_dealings(program, dealings)
    if wrong is not None:
        return (1,) + wrong
    if not is_box(program, box) or many_rounds(program, box) > MOST_ROUNDS:
        return (2,)
    return None


def need_plan(thing):
    """The PLAN itself; BadPlan tells the place of the first thing that is wrong."""
    if not is_few(thing, MOST_PHASES):
        raise BadPlan(())
    for spot, phase in enumerate(thing):
        wrong = wrong_in_phase(phase)
        if wrong is not None:
            raise BadPlan((spot,) + wrong)
    return thing


def need_number(thing, many):
    """Raises BadNumber if it is not the number of one of so many things."""
    if not is_number(thing, many):
        raise BadNumber(thing)


def holders_by(phase, dealings):
    """A list for these DEALINGS of a phase: a dict from each CELL that is touched in its BOX
    to a dict of the HANDS that hold it."""
    program, _, box = phase
    touched = touches(program, tuple(range(len(program[1]))), box)
    return [hands_at(program, touched, dealing, box) for dealing in dealings]


def holders_of(phase, number):
    """The dict of holders by one DEALING of a phase."""
    holders = holders_by(phase, (phase[1][number],))
    return holders[0]


def many_changed(near, far):
    """How many CELLS are in both dicts of holders, and have unlike ones."""
    return sum([hands != far[cell] for cell, hands in near.items() if cell in far])


def load(plan, phase, number):
    """The load of a DEALING of a phase."""
    need_plan(plan)
    need_number(phase, len(plan))
    need_number(number, len(plan[phase][1]))
    return many_sent(holders_of(plan[phase], number))


def change(plan, phase, number, far):
    """The change from a DEALING of a phase to one of the next phase."""
    need_plan(plan)
    need_number(phase, len(plan) - 1)
    need_number(number, len(plan[phase][1]))
    need_number(far, len(plan[phase + 1][1]))
    return many_changed(holders_of(plan[phase], number), holders_of(plan[phase + 1], far))


def is_choice(plan, thing):
    """Whether it is a CHOICE of the PLAN."""
    if not is_tuple(thing, len(plan)):
        return False
    return all([is_number(number, len(dealings)) for number, (_, dealings, _) in zip(thing, plan)])


def cost(plan, choice):
    """The COST of a CHOICE."""
    need_plan(plan)
    if not is_choice(plan, choice):
        raise BadChoice(choice)
    holders = [holders_of(phase, number) for phase, number in zip(plan, choice)]
    loads = sum([many_sent(found) for found in holders])
    return loads + sum([many_changed(near, far) for near, far in zip(holders, holders[1:])])


def costs(plan):
    """Two lists: for each phase one of the loads of its DEALINGS; and for each phase but
    the last one a list for each of its DEALINGS of the changes to those of the next one."""
    holders = [holders_by(phase, phase[1]) for phase in plan]
    loads = [[many_sent(found) for found in row] for row in holders]
    changes = [[[many_changed(near, far) for far in far_row] for near in row]
               for row, far_row in zip(holders, holders[1:])]
    return loads, changes


def least_rests(loads, changes):
    """For each phase, a tuple of the least costs from each of its DEALINGS on."""
    rests = (tuple(loads[-1]),)
    for row, ways in zip(loads[:-1][::-1], changes[::-1]):
        ahead = rests[0]
        least = [part + min([by + rest for by, rest in zip(way, ahead)]) for part, way in zip(row, ways)]
        rests = (tuple(least),) + rests
    return rests


def first_choice(rests, changes):
    """The first CHOICE with the least COST, by the least costs from each DEALING on."""
    number = rests[0].index(min(rests[0]))
    choice = (number,)
    for ahead, ways in zip(rests[1:], changes):
        left = [by + rest for by, rest in zip(ways[number], ahead)]
        number = left.index(min(left))
        choice = choice + (number,)
    return choice


def least_cost(plan):
    """The least COST."""
    need_plan(plan)
    loads, changes = costs(plan)
    rests = least_rests(loads, changes)
    return min(rests[0])


def best_choice(plan):
    """The first CHOICE with the least COST."""
    choice, _ = plan_paper(plan)
    return choice


def plan_paper(plan):
    """A PAPER on the least COST."""
    need_plan(plan)
    loads, changes = costs(plan)
    rests = least_rests(loads, changes)
    return first_choice(rests, changes), rests


def are_rests(plan, thing):
    """Whether it is a tuple for each phase of a tuple of an integer for each DEALING."""
    if not is_tuple(thing, len(plan)):
        return False
    for row, (_, dealings, _) in zip(thing, plan):
        if not is_tuple(row, len(dealings)) or not all([is_integer(rest) for rest in row]):
            return False
    return True


def are_low(rests, loads, changes):
    """Whether no rest is greater than what it costs to go on from there."""
    if any([rest > part for rest, part in zip(rests[-1], loads[-1])]):
        return False
    for spot, ways in enumerate(changes):
        for rest, part, way in zip(rests[spot], loads[spot], ways):
            if any([rest > part + by + ahead for by, ahead in zip(way, rests[spot + 1])]):
                return False
    return True


def cost_by(choice, loads, changes):
    """The COST of a CHOICE, by all loads and changes."""
    total = sum([row[number] for row, number in zip(loads, choice)])
    return total + sum([ways[number][far] for ways, number, far in zip(changes, choice, choice[1:])])


def check_plan(plan, paper):
    """The least COST, by a PAPER that holds; BadPaper of any other value."""
    need_plan(plan)
    if not is_tuple(paper, 2):
        raise BadPaper("form")
    choice, rests = paper
    if not is_choice(plan, choice):
        raise BadPaper("choice")
    if not are_rests(plan, rests):
        raise BadPaper("rests")
    loads, changes = costs(plan)
    least = cost_by(choice, loads, changes)
    if min(rests[0]) != least or not are_low(rests, loads, changes):
        raise BadPaper("rests")
    return least

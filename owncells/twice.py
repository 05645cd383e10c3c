"""Which arrays to keep twice, by each hand, so that there are as many hands as wanted."""

from owncells.errors import BadNumber
from owncells.hands import hands_by
from owncells.lattices import ties
from owncells.programs import is_between, need_lot, need_program

MOST_WANTED = 10 ** 9


def need_wanted(wanted):
    """Raises BadNumber if it is not WANTED."""
    if wanted is not None and not is_between(wanted, 1, MOST_WANTED):
        raise BadNumber(wanted)


def are_enough(many, wanted):
    """Whether so many hands, or endlessly many for None, are as many as wanted."""
    if many is None:
        return True
    return wanted is not None and many >= wanted


def is_enough(program, lot, wanted):
    """Whether a LOT is enough."""
    need_program(program)
    need_lot(program, lot)
    need_wanted(wanted)
    return are_enough(hands_by(program, ties(program, lot)), wanted)


def is_part(lot, whole):
    """Whether each array of a LOT is in another LOT."""
    return all([array in whole for array in lot])


def lots_of(program):
    """A list of all LOTS of a PROGRAM, those of more arrays ahead."""
    lots = [()]
    for array in range(len(program[1])):
        lots = lots + [lot + (array,) for lot in lots]
    return sorted(lots, key=len, reverse=True)


def enough_lots(program, wanted):
    """A list of all greatest LOTS that are enough, those of more arrays ahead."""
    found_by = [ties(program, (array,)) for array in range(len(program[1]))]
    greatest = []
    for lot in lots_of(program):
        if not any([is_part(lot, whole) for whole in greatest]):
            found = [tie for array in lot for tie in found_by[array]]
            if are_enough(hands_by(program, found), wanted):
                greatest.append(lot)
    return greatest


def greatest_lots(program, wanted):
    """The ascending tuple of all greatest LOTS that are enough."""
    need_program(program)
    need_wanted(wanted)
    return tuple(sorted(enough_lots(program, wanted)))


def fewest_twice(program, wanted):
    """As few arrays as can be, the first LOT of several, such that the LOT of all others is
    enough."""
    need_program(program)
    need_wanted(wanted)
    greatest = enough_lots(program, wanted)
    # The LOTS of as many arrays as can be, the first one among them, leave the fewest.
    rests = [tuple([array for array in range(len(program[1])) if array not in lot])
             for lot in greatest if len(lot) == len(greatest[0])]
    return min(rests)

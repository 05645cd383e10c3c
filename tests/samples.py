"""What several tests pass: PROGRAMS, values that are none, and how a refusal is checked."""

import copy
import inspect
import itertools

LINE = (1, (((1,),),), (((0, (0,), "write"),),))

# Array 0 goes by i + j, array 1 by the pair (2i, 2j), array 2 is read alone.
PLANE = (
    2,
    (((1, 1),), ((2, 0), (0, 2)), ((1, 0), (0, 1))),
    (
        ((0, (0,), "write"), (1, (0, 0), "read")),
        ((1, (2, 4), "write"), (2, (0, 0), "read")),
        ((2, (9, -9), "read"), (2, (9, -9), "read")),
    ),
)

SPACE = (
    3,
    (((1, 0, 0), (0, 1, 0), (0, 0, 1)), ((4, -4, 0),), ((0, 0, 0),)),
    (
        ((0, (0, 0, 0), "write"), (0, (9, -9, 1), "read")),
        ((1, (4,), "read"), (2, (0,), "write")),
    ),
)

# A ring by three arrays: from 0 to 1 by (0, 0), on to 2 by (0, 1), and back to 0 by (-2, -5).
TRIANGLE = (
    2,
    (((1, 0), (0, 1)),) * 3,
    (
        ((0, (0, 0), "write"), (2, (2, 5), "read")),
        ((0, (0, 0), "read"), (1, (0, 1), "write")),
        ((1, (0, 0), "read"), (2, (0, 0), "write")),
    ),
)

PROGRAMS = (LINE, PLANE, SPACE)

SIXTY = 10 ** 59 + 7

NO_LISTS = (None, True, False, 0, 1, -1, SIXTY, "", "read", b"", [], [0], {}, set(), object())


class Sequence:
    """The same numbers in each run: a sample that is chosen without a random source."""

    def __init__(self, start):
        self.state = start

    def under(self, many):
        self.state = (self.state * 6364136223846793005 + 1442695040888963407) % 2 ** 64
        return (self.state >> 33) % many

    def between(self, low, high):
        return low + self.under(high - low + 1)

    def program(self, depth, most_factor, most_offset):
        arrays = tuple(
            tuple(tuple(self.between(-most_factor, most_factor) for _ in range(depth))
                  for _ in range(self.between(1, 3)))
            for _ in range(self.between(1, 4)))
        statements = tuple(
            tuple(self.reference(arrays, most_offset) for _ in range(self.between(1, 4)))
            for _ in range(self.between(1, 4)))
        return depth, arrays, statements

    def reference(self, arrays, most_offset):
        array = self.under(len(arrays))
        offset = tuple(self.between(-most_offset, most_offset) for _ in arrays[array])
        return array, offset, ("read", "write")[self.under(2)]

    def lot(self, program):
        return tuple(array for array in range(len(program[1])) if self.under(4) > 0)


def one_loop(*statements):
    """A PROGRAM of one loop over arrays with the matrices 1, 2, 3, 4: references are pairs
    of an array and its one offset."""
    arrays = (((1,),), ((2,),), ((3,),), ((4,),))
    return (1, arrays, tuple(tuple((array, (offset,), "read") for array, offset in references)
                             for references in statements))


def samples(start, many, most_factor, most_offset):
    """Pairs of a PROGRAM and a LOT of it."""
    numbers = Sequence(start)
    for _ in range(many):
        program = numbers.program(numbers.between(1, 3), most_factor, most_offset)
        yield program, numbers.lot(program)


def lots_of(program):
    """All LOTS of a PROGRAM."""
    numbers = range(len(program[1]))
    return [lot for many in range(len(numbers) + 1) for lot in itertools.combinations(numbers, many)]


def form_of(modulus, *terms):
    """A FORM of one loop: each term is a pair of the one integer of a ROW, and a SHIFT."""
    return modulus, tuple(((factor,), shift) for factor, shift in terms)


def number_of(form, one):
    """The NUMBER of a ROUND, by the words of point 30."""
    row, shift = form[1][one[0]]
    whole = sum(factor * part for factor, part in zip(row, one[1])) + shift
    return whole % form[0] if form[0] else whole


def rounds_within(program, box):
    """All ROUNDS in a BOX."""
    places = list(itertools.product(*[range(low, high + 1) for low, high in box]))
    return [(number, place) for number in range(len(program[2])) for place in places]


def cells_at(program, lot, one):
    """The CELLS of arrays of the LOT that a ROUND touches, by the words of point 11."""
    return {(array, tuple(sum(factor * part for factor, part in zip(row, one[1])) + shift
                          for row, shift in zip(program[1][array], offset)))
            for array, offset, _ in program[2][one[0]] if array in lot}


def pairs_within(program, lot, box):
    """All pairs of unlike ROUNDS in a BOX that meet."""
    at = {}
    for one in rounds_within(program, box):
        for cell in cells_at(program, lot, one):
            at.setdefault(cell, []).append(one)
    return {pair for those in at.values() for pair in itertools.combinations(those, 2)}


def tied_within(program, lot, box):
    """A dict from each ROUND of a BOX to one of those tied with it by ROUNDS of the BOX."""
    leads = {one: one for one in rounds_within(program, box)}

    def lead(one):
        while leads[one] != one:
            leads[one] = leads[leads[one]]
            one = leads[one]
        return one

    first = {}
    for one in list(leads):
        for cell in cells_at(program, lot, one):
            leads[lead(one)] = lead(first.setdefault(cell, one))
    return {one: lead(one) for one in list(leads)}


def check_refused(test, error, field, told, call, *passed):
    """The call is refused twice alike, with the told field, and changes nothing."""
    before = [repr(thing) for thing in passed]
    for _ in range(2):
        with test.assertRaises(error) as caught:
            call(*passed)
        test.assertIs(caught.exception.__class__, error)
        test.assertEqual(getattr(caught.exception, field), told)
        test.assertIs(getattr(caught.exception, field).__class__, told.__class__)
    test.assertEqual([repr(thing) for thing in passed], before)


def check_told(test, told, call, *passed):
    """The call returns what is told, twice alike, and changes nothing."""
    before = [repr(thing) for thing in passed]
    kept = copy.deepcopy(passed)
    for _ in range(2):
        given = call(*passed)
        test.assertEqual(given, told)
        test.assertIs(given.__class__, told.__class__)
    test.assertEqual(call(*kept), told)
    test.assertEqual([repr(thing) for thing in passed], before)


def check_names(test, module, told):
    """The functions stand in the module, each with these names of arguments."""
    for name, arguments in told.items():
        found = getattr(module, name)
        test.assertEqual(list(inspect.signature(found).parameters), arguments)
        test.assertEqual(found.__module__, module.__name__)


def nested(depth):
    """Tuples in one another, so many of them."""
    thing = ()
    for _ in range(depth):
        thing = (thing,)
    return thing


def no_programs():
    """Pairs: a value that is no PROGRAM, and the place of the first thing that is wrong."""
    depth, arrays, statements = PLANE
    cases = [(thing, ()) for thing in NO_LISTS]
    cases += [((), ()), ((2,), ()), ((2, arrays), ()), (PLANE + (0,), ()), (list(PLANE), ()),
              (nested(50), ())]
    cases += [((thing, arrays, statements), (0,))
              for thing in (0, 4, -1, True, False, None, "2", (2,), [2], SIXTY, -SIXTY)]
    cases += [((depth, thing, statements), (1,))
              for thing in NO_LISTS + ((), (((1, 1),),) * 5, list(arrays))]
    cases += [((depth, thing, statements), (1, 0)) for thing in (nested(50), (1, 2, 3), ((), arrays[1]))]
    cases += [((depth, arrays, thing), (2,))
              for thing in NO_LISTS + ((), statements[:1] * 5, list(statements))]
    cases += [((depth, arrays, thing), (2, 0)) for thing in ((0,), (None, ()), ((),), ([],))]
    return cases + bad_matrices() + bad_statements()


def bad_matrices():
    depth, arrays, statements = PLANE
    bad = NO_LISTS + (
        (), ((1, 1),) * 4, ((1,),), ((1, 1, 1),), ((),), ([1, 1],), [(1, 1)], ((1, 5),), ((-5, 1),),
        ((1, 1), (1, -5)), ((True, 1),), ((1, False),), ((1, None),), ((1, "1"),), ((1, (1,)),),
        ((1, 1), None), ((1, SIXTY),), nested(50))
    found = []
    for spot in range(3):
        for thing in bad:
            changed = arrays[:spot] + (thing,) + arrays[spot + 1:]
            found.append(((depth, changed, statements), (1, spot)))
    return found


def bad_references():
    """Values that are no reference in PLANE."""
    return NO_LISTS + (
        (), (0, (0,)), (0, (0,), "write", 0), [0, (0,), "write"], (3, (0,), "write"),
        (-1, (0,), "write"), (True, (0, 0), "write"), (False, (0,), "write"), (None, (0,), "write"),
        ((0,), (0,), "write"), (SIXTY, (0,), "write"), (0, 0, "write"), (0, [0], "write"),
        (0, (), "write"), (0, (0, 0), "write"), (1, (0,), "write"), (0, (10,), "write"),
        (0, (-10,), "write"), (1, (9, 10), "read"), (0, (True,), "write"), (0, (None,), "write"),
        (0, ((0,),), "write"), (0, (SIXTY,), "write"), (0, (0,), "Write"), (0, (0,), "write "),
        (0, (0,), ""), (0, (0,), b"write"), (0, (0,), None), (0, (0,), 0), (0, (0,), True),
        (0, (0,), ("write",)), (0, (0,), ["read"]), (0, (0,), {}), nested(50))


def bad_statements():
    depth, arrays, statements = PLANE
    good = (0, (9,), "read")
    found = []
    for number in range(3):
        for thing in NO_LISTS + ((), (good,) * 5, [good]):
            changed = statements[:number] + (thing,) + statements[number + 1:]
            found.append(((depth, arrays, changed), (2, number)))
        for spot in range(4):
            for thing in bad_references():
                references = (good,) * spot + (thing,) + (good,) * (3 - spot)
                changed = statements[:number] + (references,) + statements[number + 1:]
                found.append(((depth, arrays, changed), (2, number, spot)))
    return found


def no_lots(program):
    """Values that are no LOT of a PROGRAM."""
    many = len(program[1])
    return NO_LISTS + (
        (many,), (0, many), (-1,), (-1, 0), (0, 0), (True,), (False,), (0, True), (None,), ("0",),
        ((0,),), ([0],), [0], (SIXTY,), nested(50)) + ((1, 0), (0, 2, 1))[:many - 1]


def no_rounds(program):
    """Values that are no ROUND of a PROGRAM."""
    depth, _, statements = program
    place = (0,) * depth
    many = len(statements)
    return NO_LISTS + (
        (), (0,), (0, place, 0), [0, place], (many, place), (-1, place), (True, place),
        (False, place), (None, place), ("0", place), ((0,), place), (SIXTY, place), (0, 0), (0, None),
        (0, list(place)), (0, ()), (0, place + (0,)), (0, place[1:]), (0, (True,) + place[1:]),
        (0, place[1:] + (False,)), (0, (None,) + place[1:]), (0, ("0",) + place[1:]),
        (0, ((0,),) + place[1:]), (0, ([],) + place[1:]), nested(50))


def no_numbers(program):
    """Values that are no number of a statement of a PROGRAM."""
    return (len(program[2]), -1, SIXTY, -SIXTY, True, False, None, "0", "", b"", (), (0,), [0], {},
            object(), nested(50))


def in_each(good, bad):
    """The tuple with each bad value in each of its places."""
    return tuple(good[:spot] + (thing,) + good[spot + 1:] for spot in range(len(good)) for thing in bad)


def no_boxes(program):
    """Values that are no BOX of a PROGRAM."""
    box = ((0, 1), (-2, 2), (5, 5))[:program[0]]
    spans = NO_LISTS + (
        (), (0,), (0, 1, 2), [0, 1], (1, 0), (SIXTY, SIXTY - 1), (-SIXTY, -SIXTY - 1), (0, True),
        (False, 0), (True, 1), (None, 0), (0, None), ("0", "1"), ((0,), (1,)), ([], []), nested(49))
    return NO_LISTS + (
        (), box[1:], box + ((0, 0),), list(box), (0, 1), nested(50), box * 5000) + in_each(box, spans)


def no_terms(depth):
    """Values that are no pair of a ROW of so many integers and a SHIFT."""
    row = (2,) * depth
    rows = NO_LISTS + ((), row[1:], row + (0,), list(row), nested(47)) + in_each(
        row, (None, True, False, "1", b"1", (1,), [1], {}))
    return NO_LISTS + (
        (), (row,), (row, 0, 0), [row, 0], (0, row), (row, True), (row, False), (row, None),
        (row, "0"), (row, (0,)), (row, [0]), (row, {})) + tuple((thing, 0) for thing in rows)


def no_forms(program):
    """Values that are no FORM of a PROGRAM."""
    depth, _, statements = program
    terms = (((1,) * depth, 3),) * len(statements)
    bad = NO_LISTS + ((), terms[1:], terms + terms[:1], list(terms), nested(49))
    bad += in_each(terms, no_terms(depth))
    return NO_LISTS + (
        (), (0,), (0, terms, 0), [0, terms], (terms, 0), nested(50), (1, terms), (-1, terms), (-2, terms),
        (10 ** 30 + 1, terms), (-10 ** 30, terms), (SIXTY, terms), (True, terms), (False, terms),
        (None, terms), ("0", terms), ((0,), terms), ([], terms)) + tuple((0, thing) for thing in bad)


def no_dealings(program):
    """Pairs: a value that is no DEALING of a PROGRAM, and the place of the first thing that
    is wrong."""
    depth, _, statements = program
    good = (5, (((1,) * depth, 3),) * len(statements))
    cases = [(thing, ()) for thing in NO_LISTS + ([good], {good: good}, (good,) * 14, (None,) * 14)]
    cases += [((thing,), (0,)) for thing in no_forms(program)]
    cases += [((good,) * spot + (thing,) + (None,) * (12 - spot), (spot,))
              for spot in (1, 5, 12) for thing in no_forms(program)[::7]]
    return cases + [(good, (0,)), (nested(50), (0,)), ((good, good[:1]), (1,))]


def no_sides(program):
    """Values that are no SIDES of a PROGRAM."""
    sides = (3,) * program[0]
    return NO_LISTS + (
        (), sides[1:], sides + (1,), list(sides), nested(50), ((0, 1),) * program[0]) + in_each(
            sides, (0, 21, -1, SIXTY, True, False, None, "3", (3,), [3], {}))


def no_wanted():
    """Values that are not WANTED."""
    return (0, -1, 10 ** 9 + 1, SIXTY, -SIXTY, True, False, "", "1", b"", (), (1,), [], [1], {}, set(), object(),
            nested(50))


def no_rows(program):
    """Values that are no ROW of a PROGRAM."""
    row = (20,) * program[0]
    return NO_LISTS + ((), row[1:], row + (0,), list(row), (row,), nested(50)) + in_each(
        row, (21, -21, SIXTY, True, False, None, "3", b"", (3,), [3], {}))


def no_moduli(low, high):
    """Values that are no integer from low to high."""
    return (low - 1, high + 1, 0, 1, -low, SIXTY, True, False, None, "", str(low), b"", (), (low,), [low], {}, set(),
            object(), nested(50))


def no_plans():
    """Pairs: a value that is no PLAN, and the place of the first thing that is wrong."""
    phase = (LINE, ((), (form_of(2, (1, 0)),)), ((0, 3),))
    cases = [(thing, ()) for thing in NO_LISTS + ((), [phase], (phase,) * 5, {phase: phase}, (None,) * 5)]
    for at in range(4):
        for wrong, place in no_phases(phase):
            ahead, behind = (phase,) * at, (phase, None, phase)[:3 - at]
            cases.append((ahead + (wrong,) + behind, (at,) + place))
    return cases


def no_phases(phase):
    """Pairs: a value that is no phase, and the way to the first thing that is wrong."""
    program, dealings, box = phase
    cases = [(thing, ()) for thing in NO_LISTS + (
        (), phase[:2], phase + (0,), list(phase), (phase,), nested(48), phase * 2)]
    # All that stands behind is wrong, too.
    cases += [((thing, None, None), (0,)) for thing, _ in no_programs()[::9]]
    cases += [((program, thing, None), (1,)) for thing in NO_LISTS + (
        (), ((),) * 5, [()], {(): ()}, (None,) * 5)]
    cases += [((program, dealings[:1] * number + (thing,) + (None,) * (3 - number), None), (1, number))
              for number in range(4) for thing, _ in no_dealings(program)[::11]]
    cases += [((program, dealings, thing), (2,)) for thing in no_boxes(program)]
    cases += [((program, dealings, thing), (2,)) for thing in (((0, 1000),), ((-SIXTY, SIXTY),))]
    cases += [((PLANE, ((),), ((0, 0), (0, low))), (2,)) for low in (333, 1000)]
    return cases

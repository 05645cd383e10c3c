"""What several tests pass: PROGRAMS, values that are none, and how a refusal is checked."""

import copy
import itertools

LINE = (1, (((1,),),), (((0, (0,), "write"),),))

# Array 0 goes by i + j, array 1 by the pair (2i, 2j), array 2 is read alone.
PLANE = (
    2,
    (((1, 1),), ((2, 0), (0, 2)), ((1, 0), (0, 1))),
    (
        ((0, (0,), "write"), (1, (0, 0), "read")),
        ((1, (2, 4), "write"), (2, (0, 0), "read")),
        ((2, (9, -9), "read"), (2, (9, -9), "read")),
    ),
)

SPACE = (
    3,
    (((1, 0, 0), (0, 1, 0), (0, 0, 1)), ((4, -4, 0),), ((0, 0, 0),)),
    (
        ((0, (0, 0, 0), "write"), (0, (9, -9, 1), "read")),
        ((1, (4,), "read"), (2, (0,), "write")),
    ),
)

PROGRAMS = (LINE, PLANE, SPACE)

SIXTY = 10 ** 59 + 7

NO_LISTS = (None, True, False, 0, 1, -1, SIXTY, "", "read", b"", [], [0], {}, set(), object())


class Sequence:
    """The same numbers in each run: a sample that is chosen without a random source."""

    def __init__(self, start):
        self.state = start

    def under(self, many):
        self.state = (self.state * 6364136223846793005 + 1442695040888963407) % 2 ** 64
        return (self.state >> 33) % many

    def between(self, low, high):
        return low + self.under(high - low + 1)

    def program(self, depth, most_factor, most_offset):
        arrays = tuple(
            tuple(tuple(self.between(-most_factor, most_factor) for _ in range(depth))
                  for _ in range(self.between(1, 3)))
            for _ in range(self.between(1, 4)))
        statements = tuple(
            tuple(self.reference(arrays, most_offset) for _ in range(self.between(1, 4)))
            for _ in range(self.between(1, 4)))
        return depth, arrays, statements

    def reference(self, arrays, most_offset):
        array = self.under(len(arrays))
        offset = tuple(self.between(-most_offset, most_offset) for _ in arrays[array])
        return array, offset, ("read", "write")[self.under(2)]

    def lot(self, program):
        return tuple(array for array in range(len(program[1])) if self.under(4) > 0)


def lots_of(program):
    """All LOTS of a PROGRAM."""
    numbers = range(len(program[1]))
    return [lot for many in range(len(numbers) + 1) for lot in itertools.combinations(numbers, many)]


def check_refused(test, error, field, told, call, *passed):
    """The call is refused twice alike, with the told field, and changes nothing."""
    before = [repr(thing) for thing in passed]
    for _ in range(2):
        with test.assertRaises(error) as caught:
            call(*passed)
        test.assertIs(caught.exception.__class__, error)
        test.assertEqual(getattr(caught.exception, field), told)
        test.assertIs(getattr(caught.exception, field).__class__, told.__class__)
    test.assertEqual([repr(thing) for thing in passed], before)


def check_told(test, told, call, *passed):
    """The call returns what is told, twice alike, and changes nothing."""
    before = [repr(thing) for thing in passed]
    kept = copy.deepcopy(passed)
    for _ in range(2):
        given = call(*passed)
        test.assertEqual(given, told)
        test.assertIs(given.__class__, told.__class__)
    test.assertEqual(call(*kept), told)
    test.assertEqual([repr(thing) for thing in passed], before)


def nested(depth):
    """Tuples in one another, so many of them."""
    thing = ()
    for _ in range(depth):
        thing = (thing,)
    return thing


def no_programs():
    """Pairs: a value that is no PROGRAM, and the place of the first thing that is wrong."""
    depth, arrays, statements = PLANE
    cases = [(thing, ()) for thing in NO_LISTS]
    cases += [((), ()), ((2,), ()), ((2, arrays), ()), (PLANE + (0,), ()), (list(PLANE), ()),
              (nested(50), ())]
    cases += [((thing, arrays, statements), (0,))
              for thing in (0, 4, -1, True, False, None, "2", (2,), [2], SIXTY, -SIXTY)]
    cases += [((depth, thing, statements), (1,))
              for thing in NO_LISTS + ((), (((1, 1),),) * 5, list(arrays))]
    cases += [((depth, thing, statements), (1, 0)) for thing in (nested(50), (1, 2, 3), ((), arrays[1]))]
    cases += [((depth, arrays, thing), (2,))
              for thing in NO_LISTS + ((), statements[:1] * 5, list(statements))]
    cases += [((depth, arrays, thing), (2, 0)) for thing in ((0,), (None, ()), ((),), ([],))]
    return cases + bad_matrices() + bad_statements()


def bad_matrices():
    depth, arrays, statements = PLANE
    bad = NO_LISTS + (
        (), ((1, 1),) * 4, ((1,),), ((1, 1, 1),), ((),), ([1, 1],), [(1, 1)], ((1, 5),), ((-5, 1),),
        ((1, 1), (1, -5)), ((True, 1),), ((1, False),), ((1, None),), ((1, "1"),), ((1, (1,)),),
        ((1, 1), None), ((1, SIXTY),), nested(50))
    found = []
    for spot in range(3):
        for thing in bad:
            changed = arrays[:spot] + (thing,) + arrays[spot + 1:]
            found.append(((depth, changed, statements), (1, spot)))
    return found


def bad_references():
    """Values that are no reference in PLANE."""
    return NO_LISTS + (
        (), (0, (0,)), (0, (0,), "write", 0), [0, (0,), "write"], (3, (0,), "write"),
        (-1, (0,), "write"), (True, (0, 0), "write"), (False, (0,), "write"), (None, (0,), "write"),
        ((0,), (0,), "write"), (SIXTY, (0,), "write"), (0, 0, "write"), (0, [0], "write"),
        (0, (), "write"), (0, (0, 0), "write"), (1, (0,), "write"), (0, (10,), "write"),
        (0, (-10,), "write"), (1, (9, 10), "read"), (0, (True,), "write"), (0, (None,), "write"),
        (0, ((0,),), "write"), (0, (SIXTY,), "write"), (0, (0,), "Write"), (0, (0,), "write "),
        (0, (0,), ""), (0, (0,), b"write"), (0, (0,), None), (0, (0,), 0), (0, (0,), True),
        (0, (0,), ("write",)), (0, (0,), ["read"]), (0, (0,), {}), nested(50))


def bad_statements():
    depth, arrays, statements = PLANE
    good = (0, (9,), "read")
    found = []
    for number in range(3):
        for thing in NO_LISTS + ((), (good,) * 5, [good]):
            changed = statements[:number] + (thing,) + statements[number + 1:]
            found.append(((depth, arrays, changed), (2, number)))
        for spot in range(4):
            for thing in bad_references():
                references = (good,) * spot + (thing,) + (good,) * (3 - spot)
                changed = statements[:number] + (references,) + statements[number + 1:]
                found.append(((depth, arrays, changed), (2, number, spot)))
    return found


def no_lots(program):
    """Values that are no LOT of a PROGRAM."""
    many = len(program[1])
    return NO_LISTS + (
        (many,), (0, many), (-1,), (-1, 0), (0, 0), (True,), (False,), (0, True), (None,), ("0",),
        ((0,),), ([0],), [0], (SIXTY,), nested(50)) + ((1, 0), (0, 2, 1))[:many - 1]


def no_rounds(program):
    """Values that are no ROUND of a PROGRAM."""
    depth, _, statements = program
    place = (0,) * depth
    many = len(statements)
    return NO_LISTS + (
        (), (0,), (0, place, 0), [0, place], (many, place), (-1, place), (True, place),
        (False, place), (None, place), ("0", place), ((0,), place), (SIXTY, place), (0, 0), (0, None),
        (0, list(place)), (0, ()), (0, place + (0,)), (0, place[1:]), (0, (True,) + place[1:]),
        (0, place[1:] + (False,)), (0, (None,) + place[1:]), (0, ("0",) + place[1:]),
        (0, ((0,),) + place[1:]), (0, ([],) + place[1:]), nested(50))


def no_numbers(program):
    """Values that are no number of a statement of a PROGRAM."""
    return (len(program[2]), -1, SIXTY, -SIXTY, True, False, None, "0", "", b"", (), (0,), [0], {},
            object(), nested(50))

"""Point 65: a live nest, its deeds, what is taken back, copies and trials."""

import inspect
import operator
import unittest

from owncells import nest as module
from owncells.errors import BadLot, BadNumber, BadProgram, BadReference, NothingLeft, TooGreat
from owncells.hands import many_hands
from owncells.nest import Nest, under
from owncells.programs import need_program
from tests.samples import (
    LINE, NO_LISTS, PLANE, PROGRAMS, SIXTY, SPACE, TRIANGLE, Sequence, bad_references, check_told,
    lots_of, nested, no_lots, no_numbers, no_programs)

READ, WRITE = "read", "write"

GOOD = (0, (9,), READ)

OTHER = (((1, (0, 9), WRITE),), ((0, (1,), READ), (2, (-9, 9), WRITE)), ((0, (0,), READ),) * 4)


class Wrong(Exception):
    """What tests raise in a block."""


def check_refused(test, nest, error, field, told, call, *passed):
    """The deed is refused twice alike, with the told field, and changes nothing."""
    before = nest.program, len(nest), [repr(thing) for thing in passed]
    for _ in range(2):
        with test.assertRaises(error) as caught:
            call(*passed)
        test.assertIs(caught.exception.__class__, error)
        if field is not None:
            test.assertEqual(getattr(caught.exception, field), told)
            test.assertIs(getattr(caught.exception, field).__class__, told.__class__)
    test.assertEqual((nest.program, len(nest), [repr(thing) for thing in passed]), before)


def some_deed(numbers, nest):
    """Does a deed, or takes one back; tells whether one was done."""
    depth, arrays, statements = nest.program
    deed = numbers.under(5)
    if deed == 0 and len(statements) < 4:
        nest.put(tuple(numbers.reference(arrays, 9) for _ in range(numbers.between(1, 4))))
    elif deed == 1 and len(statements) > 1:
        nest.drop(numbers.under(len(statements)))
    elif deed == 2 and len(nest) > 0:
        nest.undo()
        return False
    else:
        statement = numbers.under(len(statements))
        spot = numbers.under(len(statements[statement]))
        rows = len(arrays[statements[statement][spot][0]])
        nest.offset(statement, spot, tuple(numbers.between(-9, 9) for _ in range(rows)))
    return True


def states(nest):
    """All PROGRAMS that a nest had, the one that it has at the end; it is taken back."""
    found = [nest.program]
    while len(nest) > 0:
        nest.undo()
        found.append(nest.program)
    return found[::-1]


class TestNest(unittest.TestCase):
    def test_it_has_its_program(self):
        for program in PROGRAMS + (TRIANGLE,):
            nest = Nest(program)
            self.assertEqual(nest.program, program)
            self.assertEqual(Nest(program=program).program, program)
            self.assertEqual(len(nest), 0)
            self.assertIs(len(nest).__class__, int)
            self.assertEqual(nest.program, nest.program)

    def test_wrong_programs(self):
        for thing, place in no_programs():
            with self.assertRaises(BadProgram) as caught:
                Nest(thing)
            self.assertEqual(caught.exception.place, place)

    def test_nests_of_one_program_go_by_themselves(self):
        one, other = Nest(PLANE), Nest(PLANE)
        one.drop(0)
        self.assertEqual((one.program, len(one)), ((2, PLANE[1], PLANE[2][1:]), 1))
        self.assertEqual((other.program, len(other)), (PLANE, 0))

    def test_the_program_is_not_set(self):
        nest = Nest(PLANE)
        with self.assertRaises(AttributeError):
            nest.program = LINE
        self.assertEqual(nest.program, PLANE)


class TestPut(unittest.TestCase):
    def test_statements_are_put_behind_the_others(self):
        nest = Nest(LINE)
        statements = LINE[2]
        puts = ((0, (1,), READ),), ((0, (-9,), WRITE), (0, (9,), READ)), ((0, (0,), READ),) * 4
        for many, references in enumerate(puts):
            self.assertIsNone(nest.put(references))
            statements += (references,)
            self.assertEqual(nest.program, (1, LINE[1], statements))
            self.assertEqual(len(nest), many + 1)
        need_program(nest.program)

    def test_a_fifth_statement_is_too_many(self):
        nest = Nest(LINE)
        for _ in range(3):
            nest.put((GOOD,))
        check_refused(self, nest, TooGreat, "most", 4, nest.put, (GOOD,))
        check_refused(self, nest, BadReference, "place", (), nest.put, ())
        check_refused(self, nest, BadReference, "place", (1,), nest.put, (GOOD, None))
        nest.drop(2)
        nest.put((GOOD,))
        self.assertEqual(len(nest), 5)

    def test_wrong_references(self):
        for nest in (Nest(PLANE), Nest((2, PLANE[1], PLANE[2] + PLANE[2][:1]))):
            for thing in NO_LISTS + ((), (GOOD,) * 5, [GOOD], (None,) * 5, {GOOD: 1}):
                check_refused(self, nest, BadReference, "place", (), nest.put, thing)
            for spot in range(4):
                for thing in bad_references():
                    passed = (GOOD,) * spot + (thing,) + (None,) * (3 - spot)
                    check_refused(self, nest, BadReference, "place", (spot,), nest.put, passed)

    def test_arrays_are_those_of_the_nest(self):
        nest = Nest(LINE)
        check_refused(self, nest, BadReference, "place", (0,), nest.put, ((1, (0,), READ),))
        check_refused(self, nest, BadReference, "place", (1,), nest.put, (GOOD, (0, (0, 0), READ)))


class TestDrop(unittest.TestCase):
    def test_each_statement(self):
        for statement in range(3):
            nest = Nest(TRIANGLE)
            self.assertIsNone(nest.drop(statement))
            left = tuple(references for number, references in enumerate(TRIANGLE[2]) if number != statement)
            self.assertEqual(nest.program, (2, TRIANGLE[1], left))
            self.assertEqual(len(nest), 1)

    def test_one_alone_is_not_dropped(self):
        nest = Nest(TRIANGLE)
        nest.drop(0)
        nest.drop(1)
        self.assertEqual(nest.program, (2, TRIANGLE[1], TRIANGLE[2][1:2]))
        check_refused(self, nest, BadNumber, "value", 0, nest.drop, 0)
        check_refused(self, nest, BadNumber, "value", 1, nest.drop, 1)

    def test_wrong_numbers(self):
        for program in PROGRAMS:
            nest = Nest(program)
            for thing in no_numbers(program):
                check_refused(self, nest, BadNumber, "value", thing, nest.drop, thing)


class TestOffset(unittest.TestCase):
    def test_each_reference(self):
        for program in (PLANE, SPACE, TRIANGLE):
            for statement, references in enumerate(program[2]):
                for spot, (array, offset, kind) in enumerate(references):
                    nest = Nest(program)
                    changed = tuple(-9 + spot for _ in offset)
                    self.assertIsNone(nest.offset(statement, spot, changed))
                    told = [list(those) for those in program[2]]
                    told[statement][spot] = (array, changed, kind)
                    self.assertEqual(nest.program, (program[0], program[1], tuple(map(tuple, told))))
                    self.assertEqual(len(nest), 1)

    def test_as_it_was_is_a_deed_too(self):
        nest = Nest(LINE)
        for many in range(1, 5):
            nest.offset(0, 0, (0,))
            self.assertEqual((nest.program, len(nest)), (LINE, many))
        nest.undo()
        self.assertEqual((nest.program, len(nest)), (LINE, 3))

    def test_offsets_of_9_and_of_10(self):
        nest = Nest(LINE)
        for part in (9, -9):
            nest.offset(0, 0, (part,))
            self.assertEqual(nest.program[2], (((0, (part,), WRITE),),))
        for part in (10, -10):
            check_refused(self, nest, BadReference, "place", (), nest.offset, 0, 0, (part,))

    def test_wrong_arguments_in_their_order(self):
        nest = Nest(PLANE)
        for thing in NO_LISTS + ((), (0, 0, 0), (0,), [0, 0], (0, 10), (-10, 0), (True, 0), (0, False), (None, 0),
                                 ("0", 0), ((0,), 0), (SIXTY, 0), nested(50)):
            check_refused(self, nest, BadReference, "place", (), nest.offset, 0, 1, thing)
        for thing in (2, 3, -1, SIXTY, True, False, None, "0", b"", (), (0,), [0], {}, object(), nested(50)):
            check_refused(self, nest, BadNumber, "value", thing, nest.offset, 0, thing, None)
        for thing in no_numbers(PLANE):
            check_refused(self, nest, BadNumber, "value", thing, nest.offset, thing, -7, None)
        # Each array has as many integers as rows, each statement its own references.
        check_refused(self, nest, BadReference, "place", (), nest.offset, 0, 0, (0, 0))
        check_refused(self, nest, BadNumber, "value", 1, Nest(LINE).offset, 0, 1, (0,))


class TestDeeds(unittest.TestCase):
    def fill(self, nest):
        while len(nest) < 300:
            nest.offset(0, 0, (len(nest) % 10,))

    def test_300_deeds_and_one_more(self):
        nest = Nest((1, LINE[1], LINE[2] * 2))
        self.fill(nest)
        for call, *passed in ((nest.put, (GOOD,)), (nest.drop, 0), (nest.drop, 1), (nest.offset, 0, 0, (3,)),
                              (nest.offset, 0, 0, nest.program[2][0][0][1])):
            check_refused(self, nest, TooGreat, "most", 300, call, *passed)
        self.assertEqual(len(nest), 300)
        nest.undo()
        nest.drop(0)
        check_refused(self, nest, TooGreat, "most", 300, nest.put, (GOOD,))

    def test_other_exceptions_come_first(self):
        nest = Nest((1, LINE[1], LINE[2] * 4))
        self.fill(nest)
        check_refused(self, nest, TooGreat, "most", 4, nest.put, (GOOD,))
        check_refused(self, nest, BadReference, "place", (0,), nest.put, (None,))
        check_refused(self, nest, BadNumber, "value", 4, nest.drop, 4)
        check_refused(self, nest, BadNumber, "value", 4, nest.offset, 4, 0, (0,))
        check_refused(self, nest, BadNumber, "value", 1, nest.offset, 0, 1, (0,))
        check_refused(self, nest, BadReference, "place", (), nest.offset, 0, 0, (10,))
        alone = Nest(LINE)
        self.fill(alone)
        check_refused(self, alone, BadNumber, "value", 0, alone.drop, 0)

    def test_deeds_that_were_taken_back_do_not_count(self):
        nest = Nest(LINE)
        for _ in range(1000):
            nest.put((GOOD,))
            nest.undo()
        self.fill(nest)
        self.assertEqual(len(nest), 300)
        self.assertEqual(len(states(nest)), 301)

    def test_refused_deeds_do_not_count(self):
        nest = Nest(LINE)
        for _ in range(400):
            with self.assertRaises(BadNumber):
                nest.drop(0)
        self.fill(nest)

    def test_long_rows_of_deeds(self):
        for start in range(12):
            numbers = Sequence(130 + start)
            program = numbers.program(numbers.between(1, 3), 4, 9)
            nest, told = Nest(program), [program]
            for _ in range(250):
                if some_deed(numbers, nest):
                    told.append(nest.program)
                else:
                    told.pop()
                    self.assertEqual(nest.program, told[-1])
                self.assertEqual(len(nest), len(told) - 1)
                need_program(nest.program)
            self.assertEqual(states(nest), told)


class TestUndo(unittest.TestCase):
    def test_each_deed_is_taken_back(self):
        nest = Nest(PLANE)
        nest.put(OTHER[0])
        nest.drop(1)
        nest.offset(0, 0, (5,))
        for many in (2, 1, 0):
            self.assertIsNone(nest.undo())
            self.assertEqual(len(nest), many)
        self.assertEqual(nest.program, PLANE)

    def test_taken_back_and_done_anew(self):
        nest = Nest(PLANE)
        nest.put(OTHER[0])
        nest.undo()
        nest.put(OTHER[1])
        self.assertEqual(nest.program[2][3:], OTHER[1:2])
        nest.drop(3)
        nest.undo()
        self.assertEqual(nest.program[2][3:], OTHER[1:2])
        nest.undo()
        self.assertEqual(nest.program, PLANE)

    def test_nothing_is_left(self):
        nest = Nest(PLANE)
        check_refused(self, nest, NothingLeft, None, None, nest.undo)
        nest.drop(0)
        nest.undo()
        check_refused(self, nest, NothingLeft, None, None, nest.undo)


class TestHands(unittest.TestCase):
    def test_as_many_hands_say(self):
        for start in range(8):
            numbers = Sequence(150 + start)
            program = numbers.program(numbers.between(1, 3), 2, 4)
            nest = Nest(program)
            for _ in range(12):
                some_deed(numbers, nest)
                for lot in lots_of(nest.program):
                    check_told(self, many_hands(nest.program, lot), nest.hands, lot)
                    self.assertEqual(nest.hands(lot=lot), many_hands(nest.program, lot))

    def test_endlessly_many_and_few(self):
        nest = Nest((1, LINE[1], (((0, (0,), WRITE), (0, (0,), READ)),)))
        for part, told in ((3, 3), (1, 1), (0, None), (-9, 9)):
            nest.offset(0, 1, (part,))
            self.assertEqual(nest.hands((0,)), told)
            self.assertIsNone(nest.hands(()))
        nest.undo()
        self.assertIsNone(nest.hands((0,)))

    def test_wrong_lots(self):
        for program in PROGRAMS:
            nest = Nest(program)
            for thing in no_lots(program):
                check_refused(self, nest, BadLot, "value", thing, nest.hands, thing)


class TestCopy(unittest.TestCase):
    def test_it_stands_as_the_first_one(self):
        nest = Nest(PLANE)
        nest.put(OTHER[0])
        nest.drop(0)
        other = nest.copy()
        self.assertIs(other.__class__, Nest)
        self.assertIsNot(other, nest)
        self.assertEqual((other.program, len(other)), (nest.program, 2))
        self.assertEqual(states(other), states(nest))

    def test_each_goes_on_by_itself(self):
        nest = Nest(PLANE)
        nest.put(OTHER[0])
        other = nest.copy()
        nest.drop(0)
        self.assertEqual((other.program, len(other)), ((2, PLANE[1], PLANE[2] + OTHER[:1]), 1))
        other.offset(0, 0, (7,))
        other.offset(0, 0, (8,))
        self.assertEqual((nest.program, len(nest)), ((2, PLANE[1], PLANE[2][1:] + OTHER[:1]), 2))
        other.undo()
        other.undo()
        other.undo()
        check_refused(self, other, NothingLeft, None, None, other.undo)
        self.assertEqual(len(nest), 2)
        nest.undo()
        nest.undo()
        self.assertEqual(nest.program, PLANE)

    def test_copies_of_copies(self):
        numbers = Sequence(160)
        nest = Nest(TRIANGLE)
        found = []
        for _ in range(40):
            some_deed(numbers, nest)
            found.append((nest, nest.copy().copy()))
            nest = nest.copy()
        for one, other in found:
            self.assertEqual(one, other)
            self.assertEqual(states(one), states(other))

    def test_deeds_of_a_copy_count_with_those_ahead(self):
        nest = Nest(LINE)
        for _ in range(299):
            nest.offset(0, 0, (1,))
        other = nest.copy()
        other.offset(0, 0, (2,))
        check_refused(self, other, TooGreat, "most", 300, other.offset, 0, 0, (3,))
        nest.offset(0, 0, (4,))
        self.assertEqual(len(nest), 300)


class TestEqual(unittest.TestCase):
    def test_nests_with_equal_programs(self):
        one, other = Nest(PLANE), Nest((2, PLANE[1], tuple(list(PLANE[2]))))
        self.assertTrue(one == other)
        self.assertFalse(one != other)
        one.put(OTHER[0])
        self.assertFalse(one == other)
        self.assertTrue(one != other)
        one.undo()
        self.assertTrue(one == other)
        # What can be taken back does not count.
        one.offset(0, 0, (0,))
        self.assertTrue(one == other)
        self.assertNotEqual(len(one), len(other))

    def test_unlike_programs(self):
        nests = [Nest(program) for program in PROGRAMS + (TRIANGLE,)]
        for near, one in enumerate(nests):
            for far, other in enumerate(nests):
                self.assertIs(one == other, near == far)
                self.assertIs(one != other, near != far)

    def test_other_things(self):
        nest = Nest(PLANE)
        for thing in NO_LISTS + (PLANE, (), nest.program, Nest, nest.trial(), len(nest), nested(50)):
            self.assertIs(nest == thing, False)
            self.assertIs(thing == nest, False)
            self.assertIs(nest != thing, True)
            self.assertIs(thing != nest, True)

    def test_other_operators(self):
        nest = Nest(PLANE)
        for sign in (operator.lt, operator.le, operator.gt, operator.ge, operator.add, operator.sub, operator.mul,
                     operator.and_, operator.or_, operator.xor, operator.floordiv, operator.mod, operator.lshift):
            for thing in (Nest(PLANE), nest, 1, PLANE, None, "x", (1,), [1], {}):
                if not (sign is operator.mod and thing == "x"):
                    self.assertRaises(TypeError, sign, thing, nest)
                self.assertRaises(TypeError, sign, nest, thing)
        for sign in (operator.neg, operator.pos, operator.invert, abs, iter):
            self.assertRaises(TypeError, sign, nest)
        self.assertRaises(TypeError, operator.contains, nest, 1)
        self.assertRaises(TypeError, operator.getitem, nest, 0)


class TestTrial(unittest.TestCase):
    def test_the_block_gets_the_nest_itself(self):
        nest = Nest(PLANE)
        with nest.trial() as same:
            self.assertIs(same, nest)

    def test_it_is_as_it_was_when_the_block_began(self):
        nest = Nest(PLANE)
        nest.put(OTHER[0])
        nest.offset(0, 0, (4,))
        before = nest.program
        with nest.trial() as same:
            same.drop(0)
            same.drop(0)
            self.assertEqual(len(nest), 4)
            self.assertEqual(nest.program, (2, PLANE[1], PLANE[2][2:] + OTHER[:1]))
        self.assertEqual((nest.program, len(nest)), (before, 2))
        self.assertEqual(states(nest), [PLANE, (2, PLANE[1], PLANE[2] + OTHER[:1]), before])

    def test_what_was_taken_back_within(self):
        nest = Nest(PLANE)
        nest.put(OTHER[0])
        nest.offset(0, 0, (4,))
        told = states(nest.copy())
        with nest.trial():
            nest.undo()
            nest.undo()
            self.assertEqual(nest.program, PLANE)
            nest.drop(1)
        self.assertEqual(states(nest), told)

    def test_an_exception_passes(self):
        nest = Nest(PLANE)
        nest.drop(0)
        before = nest.program
        for error in (Wrong, BadNumber, NothingLeft, KeyboardInterrupt, StopIteration):
            wrong = error(3) if error is BadNumber else error()
            with self.assertRaises(error) as caught:
                with nest.trial():
                    nest.put(OTHER[1])
                    raise wrong
            self.assertIs(caught.exception, wrong)
            self.assertEqual((nest.program, len(nest)), (before, 1))
        with self.assertRaises(BadNumber):
            with nest.trial():
                nest.drop(0)
                nest.drop(0)
        self.assertEqual((nest.program, len(nest)), (before, 1))

    def test_a_block_that_is_left_otherwise(self):
        nest = Nest(PLANE)

        def leave():
            for _ in range(3):
                with nest.trial():
                    nest.drop(0)
                    continue
            with nest.trial() as same:
                same.drop(0)
                return same.program
        self.assertEqual(leave(), (2, PLANE[1], PLANE[2][1:]))
        self.assertEqual((nest.program, len(nest)), (PLANE, 0))

    def test_deeds_between_the_making_and_the_block_stay(self):
        nest = Nest(PLANE)
        trial = nest.trial()
        nest.put(OTHER[0])
        with trial:
            nest.drop(0)
        self.assertEqual((nest.program, len(nest)), ((2, PLANE[1], PLANE[2] + OTHER[:1]), 1))
        trial = nest.trial()
        nest.undo()
        with trial:
            nest.drop(0)
        self.assertEqual((nest.program, len(nest)), (PLANE, 0))

    def test_a_trial_that_is_never_begun_changes_nothing(self):
        nest = Nest(PLANE)
        nest.trial()
        nest.drop(0)
        nest.trial()
        self.assertEqual(len(nest), 1)

    def test_trials_within_trials(self):
        nest = Nest(PLANE)
        with nest.trial() as one:
            one.put(OTHER[0])
            with nest.trial() as other:
                self.assertIs(other, one)
                other.drop(0)
                with other.trial():
                    other.undo()
                    other.undo()
                    self.assertEqual(nest.program, PLANE)
                self.assertEqual(nest.program, (2, PLANE[1], PLANE[2][1:] + OTHER[:1]))
                self.assertEqual(len(nest), 2)
            self.assertEqual(nest.program, (2, PLANE[1], PLANE[2] + OTHER[:1]))
            self.assertEqual(len(nest), 1)
            with self.assertRaises(Wrong):
                with one.trial():
                    one.drop(2)
                    raise Wrong()
            self.assertEqual(len(nest), 1)
        self.assertEqual((nest.program, len(nest)), (PLANE, 0))

    def test_one_trial_behind_another(self):
        nest = Nest(PLANE)
        for _ in range(3):
            with nest.trial():
                nest.drop(2)
            nest.offset(0, 0, (3,))
        self.assertEqual(len(nest), 3)

    def test_copies_in_a_trial_stay(self):
        nest = Nest(PLANE)
        with nest.trial():
            nest.drop(0)
            other = nest.copy()
        self.assertEqual((other.program, len(other)), ((2, PLANE[1], PLANE[2][1:]), 1))
        other.undo()
        self.assertEqual(other, nest)
        # A trial of the one leaves the other alone.
        with nest.trial():
            other.drop(1)
        self.assertEqual((len(nest), len(other)), (0, 1))

    def test_300_deeds_in_a_trial(self):
        nest = Nest(LINE)
        for _ in range(150):
            nest.offset(0, 0, (1,))
        with nest.trial():
            for _ in range(150):
                nest.offset(0, 0, (2,))
            check_refused(self, nest, TooGreat, "most", 300, nest.offset, 0, 0, (3,))
        self.assertEqual(len(nest), 150)
        nest.offset(0, 0, (3,))

    def test_long_rows_of_deeds(self):
        numbers = Sequence(170)
        nest = Nest(TRIANGLE)
        for _ in range(60):
            some_deed(numbers, nest)
            before = states(nest.copy())
            with nest.trial():
                for _ in range(numbers.under(9)):
                    some_deed(numbers, nest)
            self.assertEqual(states(nest.copy()), before)


class TestUnder(unittest.TestCase):
    def test_what_the_deed_returns(self):
        nest = Nest(PLANE)
        for told in (None, 5, (), [1], nest, Wrong):
            self.assertIs(under(nest.trial(), lambda one: told), told)
        self.assertIs(under(nest.trial(), lambda one: one), nest)
        self.assertEqual(under(deed=lambda one: one.drop(0) or one.program, manager=nest.trial()),
                         (2, PLANE[1], PLANE[2][1:]))
        self.assertEqual((nest.program, len(nest)), (PLANE, 0))

    def test_an_exception_passes(self):
        nest = Nest(LINE)
        with self.assertRaises(BadNumber):
            under(nest.trial(), lambda one: one.put((GOOD,)) or one.drop(5))
        self.assertEqual((nest.program, len(nest)), (LINE, 0))

    def test_within_another(self):
        nest = Nest(LINE)

        def deed(one):
            one.put((GOOD,))
            inner = under(one.trial(), lambda same: same.put((GOOD,)) or len(same.program[2]))
            return inner, len(one.program[2])
        self.assertEqual(under(nest.trial(), deed), (3, 2))
        self.assertEqual(nest.program, LINE)

    def test_other_managers(self):
        rows = []

        class Manager:
            def __enter__(self):
                rows.append("in")
                return 7

            def __exit__(self, *told):
                rows.append(told[0])
                return told[0] is Wrong

        self.assertEqual(under(Manager(), lambda one: one + 1), 8)
        self.assertEqual(rows, ["in", None])

        def wrong(one):
            raise Wrong()
        # A manager may keep an exception to itself; then nothing is returned.
        self.assertIsNone(under(Manager(), wrong))
        self.assertEqual(rows[2:], ["in", Wrong])


class TestInterface(unittest.TestCase):
    def test_methods_are_defined_in_the_class_itself(self):
        for name, arguments in (
                ("put", ["references"]), ("drop", ["statement"]), ("offset", ["statement", "spot", "offset"]),
                ("hands", ["lot"]), ("__len__", []), ("undo", []), ("copy", []), ("__eq__", ["other"]),
                ("trial", []), ("__init__", ["program"])):
            found = Nest.__dict__[name]
            self.assertEqual(list(inspect.signature(found).parameters), ["self"] + arguments)
        self.assertIsInstance(Nest.__dict__["program"], property)
        self.assertEqual(Nest.__module__, "owncells.nest")
        self.assertEqual(list(inspect.signature(module.under).parameters), ["manager", "deed"])
        self.assertEqual(under.__module__, "owncells.nest")

    def test_by_name(self):
        nest = Nest(program=PLANE)
        nest.put(references=OTHER[0])
        nest.drop(statement=3)
        nest.offset(offset=(2,), spot=0, statement=0)
        self.assertIsNone(nest.hands(lot=(0,)))
        self.assertEqual(len(nest), 3)


if __name__ == "__main__":
    unittest.main()

"""Points 0 to 4 and 10 to 12: PROGRAMS, ROUNDS, CELLS, LOTS, and which ROUNDS meet."""

import copy
import unittest

from owncells import programs
from owncells.errors import BadLot, BadProgram, BadRound
from owncells.programs import cells, do_meet, need_program, written
from tests.samples import (
    LINE, NO_LISTS, PLANE, PROGRAMS, SIXTY, SPACE, Sequence, check_names, check_refused,
    check_told, lots_of, no_lots, no_programs, no_rounds)


class TestNeedProgram(unittest.TestCase):
    def test_the_very_same_object_is_returned(self):
        for program in PROGRAMS:
            before = copy.deepcopy(program)
            self.assertIs(need_program(program), program)
            self.assertIs(need_program(thing=program), program)
            self.assertEqual(program, before)

    def test_each_place_that_is_wrong_is_told(self):
        for thing, place in no_programs():
            with self.subTest(thing=thing):
                check_refused(self, BadProgram, "place", place, need_program, thing)

    def test_depths(self):
        for depth in (1, 2, 3):
            program = (depth, (((0,) * depth,),), (((0, (0,), "read"),),))
            self.assertIs(need_program(program), program)
        for depth in (0, 4):
            program = (depth, (((0,) * depth,),), (((0, (0,), "read"),),))
            check_refused(self, BadProgram, "place", (0,), need_program, program)

    def test_integers_of_matrices(self):
        for factor in range(-4, 5):
            program = (1, (((factor,),),), LINE[2])
            self.assertIs(need_program(program), program)
        for factor in (-5, 5):
            program = (1, (((factor,),),), LINE[2])
            check_refused(self, BadProgram, "place", (1, 0), need_program, program)

    def test_rows_of_matrices(self):
        for many in (1, 2, 3):
            program = (1, (((1,),) * many,), (((0, (0,) * many, "read"),),))
            self.assertIs(need_program(program), program)
        for many in (0, 4):
            program = (1, (((1,),) * many,), (((0, (0,) * many, "read"),),))
            check_refused(self, BadProgram, "place", (1, 0), need_program, program)

    def test_offsets(self):
        for offset in range(-9, 10):
            program = (1, LINE[1], (((0, (offset,), "read"),),))
            self.assertIs(need_program(program), program)
        for offset in (-10, 10):
            program = (1, LINE[1], (((0, (offset,), "read"),),))
            check_refused(self, BadProgram, "place", (2, 0, 0), need_program, program)

    def test_how_many(self):
        matrix, reference = ((1,),), (0, (0,), "read")
        for many in (1, 2, 3, 4):
            for program in ((1, (matrix,) * many, ((reference,),)),
                            (1, (matrix,), ((reference,),) * many),
                            (1, (matrix,), ((reference,) * many,))):
                self.assertIs(need_program(program), program)
        for many in (0, 5):
            check_refused(self, BadProgram, "place", (1,), need_program,
                          (1, (matrix,) * many, ((reference,),)))
            check_refused(self, BadProgram, "place", (2,), need_program,
                          (1, (matrix,), ((reference,),) * many))
            check_refused(self, BadProgram, "place", (2, 0), need_program,
                          (1, (matrix,), ((reference,) * many,)))

    def test_the_first_thing_that_is_wrong_is_told(self):
        depth, arrays, statements = PLANE
        good = statements[0]
        for program, place in (
                ((0, (), ()), (0,)),
                ((0, (), (), ()), ()),
                ((2, (), ()), (1,)),
                ((2, (None, ()), ()), (1, 0)),
                ((2, (arrays[0], None, None), ()), (1, 1)),
                ((2, arrays, ()), (2,)),
                ((2, arrays, (good, (good[0], None), ())), (2, 1, 1)),
                ((2, arrays, (good, (), (None,))), (2, 1)),
                ((2, arrays, ((None, None), ())), (2, 0, 0)),
                ((2, arrays, (good, good, good, (good[0], good[0], good[0], 1))), (2, 3, 3)),
                ((2, arrays, (good, (None,) * 5)), (2, 1)),
                ((1, arrays, statements), (1, 0)),
                ((2, arrays[:1], statements), (2, 0, 1))):
            with self.subTest(program=program):
                check_refused(self, BadProgram, "place", place, need_program, program)

    def test_the_kinds(self):
        for kind in ("read", "write"):
            program = (1, LINE[1], (((0, (0,), kind),),))
            self.assertIs(need_program(program), program)


class TestCells(unittest.TestCase):
    def test_ordinary_rounds(self):
        check_told(self, ((0, (5,)),), cells, LINE, (0, (5,)))
        check_told(self, ((0, (10,)), (1, (6, 14))), cells, PLANE, (0, (3, 7)))
        check_told(self, ((1, (8, 18)), (2, (3, 7))), cells, PLANE, (1, (3, 7)))
        check_told(self, ((0, (1, 2, 3)), (0, (10, -7, 4))), cells, SPACE, (0, (1, 2, 3)))
        check_told(self, ((1, (0,)), (2, (0,))), cells, SPACE, (1, (1, 2, 3)))

    def test_alike_cells_are_told_once(self):
        check_told(self, ((2, (9, -9)),), cells, PLANE, (2, (0, 0)))
        program = (1, (((0,),), ((2,),)), (((1, (2,), "read"), (0, (3,), "write"), (1, (2,), "write")),))
        check_told(self, ((0, (3,)), (1, (4,))), cells, program, (0, (1,)))

    def test_they_ascend(self):
        program = (2, (((1, 0),), ((0, -1),)),
                   (((1, (9,), "read"), (0, (9,), "read"), (1, (-9,), "read"), (0, (-9,), "read")),))
        check_told(self, ((0, (-7,)), (0, (11,)), (1, (-12,)), (1, (6,))), cells, program, (0, (2, 3)))

    def test_places_of_sixty_digits(self):
        check_told(self, ((0, (SIXTY - SIXTY * 3,)), (1, (2 * SIXTY, -6 * SIXTY))),
                   cells, PLANE, (0, (SIXTY, -3 * SIXTY)))
        check_told(self, ((1, (4 * SIXTY + 8 * SIXTY + 4,)), (2, (0,))),
                   cells, SPACE, (1, (SIXTY, -2 * SIXTY, SIXTY)))

    def test_wrong_rounds(self):
        for program in PROGRAMS:
            for thing in no_rounds(program):
                check_refused(self, BadRound, "value", thing, cells, program, thing)

    def test_wrong_programs_come_first(self):
        for thing, place in no_programs():
            check_refused(self, BadProgram, "place", place, cells, thing, None)

    def test_by_name(self):
        self.assertEqual(cells(round_at=(0, (5,)), program=LINE), ((0, (5,)),))


class TestDoMeet(unittest.TestCase):
    def test_ordinary_rounds(self):
        for lot, one, other, told in (
                ((0,), (0, (1, 2)), (0, (2, 1)), True),
                ((0,), (0, (1, 2)), (0, (2, 2)), False),
                ((1,), (0, (1, 2)), (0, (2, 1)), False),
                ((1, 2), (0, (1, 2)), (1, (0, 0)), True),
                ((2,), (0, (1, 2)), (1, (0, 0)), False),
                ((1,), (0, (1, 2)), (1, (0, 1)), False),
                ((2,), (1, (9, -9)), (2, (0, 0)), True),
                ((0, 1), (1, (9, -9)), (2, (0, 0)), False),
                ((0, 1, 2), (0, (9, -9)), (2, (0, 0)), False)):
            with self.subTest(lot=lot, one=one, other=other):
                check_told(self, told, do_meet, PLANE, lot, one, other)
                check_told(self, told, do_meet, PLANE, lot, other, one)

    def test_a_round_meets_itself_by_what_it_touches(self):
        for lot, told in (((), False), ((0,), False), ((1,), True), ((2,), True), ((0, 1, 2), True)):
            check_told(self, told, do_meet, PLANE, lot, (1, (4, 5)), (1, (4, 5)))

    def test_alike_spots_of_unlike_arrays_are_unlike_cells(self):
        program = (1, (((1,),), ((1,),)), (((0, (0,), "read"),), ((1, (0,), "read"),)))
        check_told(self, False, do_meet, program, (0, 1), (0, (0,)), (1, (0,)))
        check_told(self, True, do_meet, program, (0, 1), (1, (0,)), (1, (0,)))

    def test_they_may_touch_it_by_unlike_references(self):
        check_told(self, True, do_meet, SPACE, (0,), (0, (9, -9, 1)), (0, (0, 0, 0)))
        check_told(self, True, do_meet, SPACE, (0,), (0, (0, 0, 0)), (0, (9, -9, 1)))
        check_told(self, False, do_meet, SPACE, (0,), (0, (9, -9, 2)), (0, (0, 0, 0)))

    def test_places_of_sixty_digits(self):
        check_told(self, True, do_meet, PLANE, (0,), (0, (SIXTY, -SIXTY)), (0, (0, 0)))
        check_told(self, False, do_meet, PLANE, (0,), (0, (SIXTY, -SIXTY)), (0, (0, 1)))

    def test_by_cells_that_both_touch(self):
        numbers = Sequence(11)
        for _ in range(150):
            depth = numbers.between(1, 3)
            program = numbers.program(depth, 2, 2)
            one, other = [(numbers.under(len(program[2])),
                           tuple(numbers.between(-2, 2) for _ in range(depth))) for _ in range(2)]
            both = set(cells(program, one)) & set(cells(program, other))
            for lot in lots_of(program):
                told = any(array in lot for array, _ in both)
                check_told(self, told, do_meet, program, lot, one, other)

    def test_wrong_arguments_in_their_order(self):
        for program in PROGRAMS:
            good = (0, (0,) * program[0])
            for thing in no_lots(program):
                check_refused(self, BadLot, "value", thing, do_meet, program, thing, None, None)
            for thing in no_rounds(program):
                check_refused(self, BadRound, "value", thing, do_meet, program, (), thing, None)
                check_refused(self, BadRound, "value", thing, do_meet, program, (), good, thing)
        for thing, place in no_programs():
            check_refused(self, BadProgram, "place", place, do_meet, thing, None, None, None)

    def test_by_name(self):
        self.assertTrue(do_meet(other=(0, (5,)), one=(0, (5,)), lot=(0,), program=LINE))


class TestWritten(unittest.TestCase):
    def test_lots_of_written_arrays(self):
        check_told(self, (0,), written, LINE)
        check_told(self, (0, 1), written, PLANE)
        check_told(self, (0, 2), written, SPACE)

    def test_none_and_all(self):
        matrix = ((1,),)
        read = tuple((array, (0,), "read") for array in range(4))
        write = tuple((array, (0,), "write") for array in (3, 0, 2, 1))
        check_told(self, (), written, (1, (matrix,) * 4, (read,) * 4))
        check_told(self, (0, 1, 2, 3), written, (1, (matrix,) * 4, (read, write)))
        check_told(self, (2, 3), written, (1, (matrix,) * 4, (write[:1], read, write[2:3], write[:1])))

    def test_wrong_programs(self):
        for thing, place in no_programs():
            check_refused(self, BadProgram, "place", place, written, thing)

    def test_by_name(self):
        self.assertEqual(written(program=LINE), (0,))


class TestInterface(unittest.TestCase):
    def test_names_of_arguments(self):
        check_names(self, programs, {
            "need_program": ["thing"],
            "cells": ["program", "round_at"],
            "do_meet": ["program", "lot", "one", "other"],
            "written": ["program"],
        })

    def test_a_lot_may_have_all_arrays_or_none(self):
        for program in PROGRAMS:
            one = (0, (0,) * program[0])
            for lot in lots_of(program):
                self.assertIn(do_meet(program, lot, one, one), (True, False))

    def test_lists_are_never_tuples(self):
        self.assertTrue(all(not isinstance(thing, tuple) for thing in NO_LISTS))


if __name__ == "__main__":
    unittest.main()

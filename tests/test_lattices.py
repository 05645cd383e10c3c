"""Points 12, 13, 20, 21 and 23: joined statements, groups, lattices, BASIS, ways apart."""

import itertools
import math
import unittest

from owncells import lattices
from owncells.errors import BadLot, BadNumber, BadProgram
from owncells.lattices import basis, groups, is_step, ways_apart
from owncells.programs import do_meet
from tests.samples import (
    LINE, PLANE, PROGRAMS, SIXTY, SPACE, TRIANGLE, Sequence, check_names, check_refused,
    check_told, lots_of, no_lots, no_numbers, no_programs, one_loop, samples, tied_within)

READ, WRITE = "read", "write"


class TestGroups(unittest.TestCase):
    def test_ordinary_lots(self):
        for lot, told in (((), ((0,), (1,), (2,))), ((0,), ((0,), (1,), (2,))),
                          ((1,), ((0, 1), (2,))), ((2,), ((0,), (1, 2))),
                          ((0, 1), ((0, 1), (2,))), ((1, 2), ((0, 1, 2),)),
                          ((0, 1, 2), ((0, 1, 2),))):
            check_told(self, told, groups, PLANE, lot)

    def test_statements_are_apart_if_no_rounds_of_theirs_meet(self):
        # Both go over array 1, the one at even cells, the other at odd ones.
        program = one_loop(((1, 0),), ((1, 1),), ((1, -2),), ((1, 9),))
        check_told(self, ((0, 2), (1, 3)), groups, program, (1,))
        check_told(self, ((0,), (1,), (2,), (3,)), groups, program, (0, 2, 3))

    def test_no_place_serves_all_rows(self):
        # i = d and 2i = d' have a common answer just for d' = 2d.
        program = (1, (((1,), (2,)),), (((0, (0, 0), READ),), ((0, (3, 6), READ),), ((0, (3, 5), READ),)))
        check_told(self, ((0, 1), (2,)), groups, program, (0,))

    def test_a_row_of_meetings_joins(self):
        program = one_loop(((1, 0),), ((3, 0),), ((1, 2), (2, 0)), ((2, 3), (3, 4)))
        check_told(self, ((0, 1, 2, 3),), groups, program, (1, 2, 3))
        check_told(self, ((0, 2, 3), (1,)), groups, program, (0, 1, 2))
        check_told(self, ((0,), (1, 3), (2,)), groups, program, (3,))

    def test_zero_matrices(self):
        program = (2, (((0, 0),),), (((0, (1,), READ),), ((0, (2,), READ),), ((0, (1,), WRITE),)))
        check_told(self, ((0, 2), (1,)), groups, program, (0,))

    def test_wrong_arguments_in_their_order(self):
        for program in PROGRAMS:
            for thing in no_lots(program):
                check_refused(self, BadLot, "value", thing, groups, program, thing)
        for thing, place in no_programs():
            check_refused(self, BadProgram, "place", place, groups, thing, None)


class TestBasis(unittest.TestCase):
    def test_an_empty_lot_has_no_steps(self):
        for program in PROGRAMS:
            for statement in range(len(program[2])):
                check_told(self, (), basis, program, (), statement)

    def test_steps_that_keep_cells(self):
        check_told(self, (), basis, LINE, (0,), 0)
        check_told(self, ((1, -1),), basis, PLANE, (0,), 0)
        check_told(self, (), basis, PLANE, (0,), 1)
        check_told(self, ((1, 1, 0), (0, 0, 1)), basis, SPACE, (1,), 1)
        check_told(self, ((1, 0, 0), (0, 1, 0), (0, 0, 1)), basis, SPACE, (2,), 1)

    def test_each_statement_of_a_group_has_the_same(self):
        for statement in (0, 1, 2):
            check_told(self, ((1, -1),), basis, PLANE, (0, 1, 2), statement)
            check_told(self, ((2, 4),), basis, TRIANGLE, (0, 1, 2), statement)

    def test_a_keeping_step_beyond_the_short_one(self):
        program = (2, (((4, 2),), ((2, 4),), ((0, 4),)), (((0, (0,), READ),), ((1, (0,), READ),), ((2, (0,), READ),)))
        check_told(self, ((1, -2),), basis, program, (0,), 0)
        check_told(self, ((2, -1),), basis, program, (1,), 1)
        check_told(self, ((1, 0),), basis, program, (2,), 2)

    def test_keeping_steps_in_three_loops(self):
        arrays = (((1, 2, 3),), ((4, 3, 2), (1, -1, 0)), ((3, -4, 0), (0, 4, 3), (3, 0, 3)))
        program = (3, arrays, tuple(((array, (0,) * len(arrays[array]), READ),) for array in range(3)))
        check_told(self, ((1, 1, -1), (0, 3, -2)), basis, program, (0,), 0)
        check_told(self, ((2, 2, -7),), basis, program, (1,), 1)
        check_told(self, ((4, 3, -4),), basis, program, (2,), 2)

    def test_a_ring_within_one_statement(self):
        check_told(self, ((9, -9, 1),), basis, SPACE, (0,), 0)
        check_told(self, ((3,),), basis, one_loop(((0, 0), (0, 3))), (0,), 0)
        check_told(self, ((18,),), basis, one_loop(((0, 9), (0, -9))), (0,), 0)
        check_told(self, ((1,),), basis, one_loop(((0, 0), (0, 2), (0, 5))), (0,), 0)
        check_told(self, ((3,),), basis, one_loop(((1, 0), (1, 6))), (1,), 0)
        check_told(self, (), basis, one_loop(((1, 0), (1, 3))), (1,), 0)

    def test_a_ring_by_two_statements(self):
        # From 0 to 1 by steps of 1 (array 0), and by steps of 3 (array 1): the ring has 2.
        program = one_loop(((0, 1), (1, 6)), ((0, 0), (1, 0)))
        for statement in (0, 1):
            check_told(self, ((2,),), basis, program, (0, 1), statement)
            check_told(self, (), basis, program, (0,), statement)
            check_told(self, (), basis, program, (1,), statement)

    def test_a_ring_along_a_row_of_statements(self):
        check_told(self, ((2, 4),), basis, TRIANGLE, (0, 1, 2), 0)
        check_told(self, ((0, 1, 2),), groups, TRIANGLE, (0, 1, 2))
        for lot in ((0, 1), (0, 2), (1, 2)):
            check_told(self, ((0, 1, 2),), groups, TRIANGLE, lot)
            check_told(self, (), basis, TRIANGLE, lot, 1)

    def test_a_ring_by_four_statements(self):
        program = one_loop(((0, 0), (3, 8)), ((0, 0), (1, 0)), ((1, 0), (2, 9)), ((2, 0), (3, 0)))
        for statement in range(4):
            check_told(self, ((1,),), basis, program, (0, 1, 2, 3), statement)
            check_told(self, (), basis, program, (0, 1, 2), statement)
        program = one_loop(((0, 0), (3, -8)), ((0, 0), (1, 0)), ((1, 0), (2, 9)), ((2, 0), (3, 0)))
        check_told(self, ((5,),), basis, program, (0, 1, 2, 3), 2)

    def test_steps_of_the_others_in_the_group_count(self):
        # Statement 0 alone has no steps; it takes those of 1, with which it is joined.
        program = (2, (((1, 0), (0, 1)), ((1, 1),)),
                   (((0, (0, 0), WRITE),), ((0, (1, 0), READ), (1, (0,), READ)), ((1, (0,), READ),)))
        check_told(self, (), basis, program, (0,), 0)
        check_told(self, ((1, -1),), basis, program, (0, 1), 0)

    def test_alike_references(self):
        program = (2, (((1, 1),),), (((0, (1,), READ),) * 4,))
        check_told(self, ((1, -1),), basis, program, (0,), 0)
        program = (2, (((1, 0), (0, 1)),), (((0, (1, 1), WRITE),) * 4,) * 4)
        check_told(self, (), basis, program, (0,), 3)
        check_told(self, ((0, 1, 2, 3),), groups, program, (0,))

    def test_each_place_ahead_is_reduced(self):
        program = (2, (((1, 0), (0, 1)),), (((0, (0, 0), READ), (0, (2, 7), READ), (0, (0, 3), READ)),))
        check_told(self, ((2, 1), (0, 3)), basis, program, (0,), 0)
        program = (2, (((1, 0), (0, 1)),), (((0, (0, 0), READ), (0, (2, -7), READ), (0, (0, -3), READ)),))
        check_told(self, ((2, 2), (0, 3)), basis, program, (0,), 0)

    def test_wrong_arguments_in_their_order(self):
        check_wrong_groups(self, basis)

    def test_it_is_told_as_the_document_says(self):
        for program, lot in samples(21, 400, 4, 9):
            for statement in range(len(program[2])):
                steps = basis(program, lot, statement)
                columns = [[at for at, part in enumerate(step) if part][0] for step in steps]
                self.assertEqual(columns, sorted(set(columns)))
                for number, column in enumerate(columns):
                    self.assertGreater(steps[number][column], 0)
                    for ahead in steps[:number]:
                        self.assertIn(ahead[column], range(steps[number][column]))


class TestWaysApart(unittest.TestCase):
    def test_ordinary_groups(self):
        for program, lot, statement, told in (
                (LINE, (), 0, (1, ())), (LINE, (0,), 0, (1, ())),
                (PLANE, (), 1, (2, ())), (PLANE, (0,), 0, (1, ())), (PLANE, (0,), 1, (2, ())),
                (SPACE, (0,), 0, (2, ())), (SPACE, (1,), 1, (1, ())), (SPACE, (2,), 1, (0, ())),
                (TRIANGLE, (0, 1, 2), 0, (1, (2,))), (TRIANGLE, (0, 1), 0, (2, ())),
                (one_loop(((0, 0), (0, 3))), (0,), 0, (0, (3,))),
                (one_loop(((0, 9), (0, -9))), (0,), 0, (0, (18,))),
                (one_loop(((0, 0), (0, 1))), (0,), 0, (0, ()))):
            with self.subTest(program=program, lot=lot):
                check_told(self, told, ways_apart, program, lot, statement)

    def test_each_factor_is_a_divisor_of_the_next_one(self):
        unit = ((1, 0, 0), (0, 1, 0), (0, 0, 1))
        for offsets, told in (
                (((2, 0, 0), (0, 3, 0), (0, 0, 1)), (0, (6,))),
                (((4, 0, 0), (0, 6, 0), (0, 0, 9)), (0, (6, 36))),
                (((4, 0, 0), (0, 6, 0), (0, 0, 8)), (0, (2, 4, 24))),
                (((2, 0, 0), (0, 2, 0), (0, 0, 2)), (0, (2, 2, 2))),
                (((2, 2, 0), (0, 4, 0), (0, 0, 0)), (1, (2, 4))),
                (((6, 4, 0), (0, 0, 0), (0, 0, 0)), (2, (2,))),
                (((3, 5, 7), (0, 0, 0), (0, 0, 0)), (2, ())),
                (((1, 2, 3), (4, 5, 6), (7, 8, 9)), (1, (3,)))):
            program = (3, (unit,), (((0, (0, 0, 0), READ),) + tuple((0, offset, READ) for offset in offsets),))
            with self.subTest(offsets=offsets):
                check_told(self, told, ways_apart, program, (0,), 0)

    def test_as_the_greatest_common_divisors_of_minors_say(self):
        for program, lot in samples(22, 400, 4, 9):
            for statement in range(len(program[2])):
                steps = basis(program, lot, statement)
                told = [part for part in divisors_by_minors(steps) if part > 1]
                check_told(self, (program[0] - len(steps), tuple(told)), ways_apart, program, lot, statement)

    def test_wrong_arguments_in_their_order(self):
        check_wrong_groups(self, ways_apart)


class TestIsStep(unittest.TestCase):
    def test_ordinary_places(self):
        for place, told in (((0, 0), True), ((1, -1), True), ((-5, 5), True), ((1, 0), False), ((1, 1), False)):
            check_told(self, told, is_step, PLANE, (0, 1), 0, place)
            check_told(self, told, is_step, PLANE, (0, 1), 1, place)
            check_told(self, place == (0, 0), is_step, PLANE, (0, 1), 2, place)
        for place, told in (((2, 4), True), ((-6, -12), True), ((1, 2), False), ((2, 3), False)):
            check_told(self, told, is_step, TRIANGLE, (0, 1, 2), 2, place)

    def test_places_of_sixty_digits(self):
        check_told(self, True, is_step, PLANE, (0,), 0, (SIXTY, -SIXTY))
        check_told(self, False, is_step, PLANE, (0,), 0, (SIXTY, 1 - SIXTY))
        check_told(self, True, is_step, TRIANGLE, (0, 1, 2), 0, (2 * SIXTY, 4 * SIXTY))
        check_told(self, False, is_step, TRIANGLE, (0, 1, 2), 0, (SIXTY, 2 * SIXTY))
        check_told(self, True, is_step, SPACE, (1,), 1, (-SIXTY, -SIXTY, SIXTY * 2))

    def test_an_empty_lot(self):
        check_told(self, True, is_step, SPACE, (), 1, (0, 0, 0))
        check_told(self, False, is_step, SPACE, (), 1, (0, 0, 1))

    def test_what_is_no_place_is_no_step(self):
        for program in PROGRAMS:
            depth = program[0]
            for thing in (None, True, 0, "", (), [], [0] * depth, (0,) * (depth + 1), (0,) * (depth - 1),
                          (False,) * depth, (0,) * (depth - 1) + (True,), (None,) * depth, ("0",) * depth,
                          ((0,),) * depth, ([],) * depth, {}, object()):
                check_told(self, False, is_step, program, (), 0, thing)

    def test_sums_of_the_basis_are_all_steps(self):
        for program, lot in samples(23, 60, 3, 4):
            steps = basis(program, lot, 0)
            sums = set()
            for times in itertools.product(range(-9, 10), repeat=len(steps)):
                sums.add(tuple(sum(many * step[at] for many, step in zip(times, steps))
                               for at in range(program[0])))
            for place in list(sums)[:40]:
                self.assertTrue(is_step(program, lot, 0, place))
            for place in itertools.product((-1, 0, 1, 2), repeat=program[0]):
                if is_step(program, lot, 0, place):
                    self.assertEqual(remainder(place, steps), (0,) * program[0])
                else:
                    self.assertNotIn(place, sums)

    def test_wrong_arguments_in_their_order(self):
        check_wrong_groups(self, lambda program, lot, statement: is_step(program, lot, statement, None))


class TestExactness(unittest.TestCase):
    """The lattice against all ROUNDS of a box, dealt by what they touch alone."""

    def test_tied_rounds_of_a_box_differ_by_the_lattice(self):
        for depth, low, many in ((1, -40, 60), (2, -8, 50), (3, -4, 20)):
            numbers = Sequence(depth)
            for _ in range(many):
                program = numbers.program(depth, numbers.between(1, 4), numbers.between(0, 4))
                self.check_box(program, numbers.lot(program), low, False)

    def test_all_of_the_lattice_is_made_of_ties(self):
        for depth, low, programs in (
                (1, -60, (one_loop(((0, 0), (3, 8)), ((0, 0), (1, 0)), ((1, 0), (2, 9)), ((2, 0), (3, 0))),
                          one_loop(((1, 0), (2, 3)), ((1, 2), (2, 9)), ((3, 0),), ((3, 4), (0, 1))))),
                (2, -15, (PLANE, TRIANGLE,
                          (2, (((1, 2),), ((2, -1),)),
                          (((0, (0,), READ), (1, (3,), READ)), ((1, (0,), READ),))),
                          (2, (((2, 0), (0, 2)), ((1, 1), (1, -1))),
                           (((0, (0, 0), READ), (1, (0, 0), READ)),
                           ((0, (2, 4), READ), (1, (1, 1), READ)))))),
                (3, -5, ((3, (((1, 0, 0), (0, 1, 0)), ((1, 1, 1),)),
                          (((0, (0, 0), READ),), ((0, (2, 1), READ), (1, (0,), WRITE)), ((1, (3,), READ),))),
                         (3, (((1, 0, 0), (0, 1, 0), (0, 0, 1)),) * 2,
                          (((0, (0, 0, 0), READ), (1, (2, 0, 0), READ)),
                           ((0, (0, 1, 0), READ), (1, (0, 0, 2), READ))))))):
            for program in programs:
                for lot in lots_of(program):
                    self.check_box(program, lot, low, True)

    def check_box(self, program, lot, low, is_whole):
        hands = tied_within(program, lot, ((low, -low),) * program[0])
        told = groups(program, lot)
        self.assertEqual(sorted(itertools.chain(*told)), list(range(len(program[2]))))
        group_of = {statement: group for group in told for statement in group}
        for one in range(len(program[2])):
            steps = basis(program, lot, one)
            mine = hands[(one, (0,) * program[0])]
            tied = [(other, place) for (other, place), hand in hands.items() if hand == mine]
            for other, place in tied:
                self.assertIn(other, group_of[one])
                self.assertEqual(basis(program, lot, other), steps)
                if other == one:
                    self.assertEqual(remainder(place, steps), (0,) * program[0])
            if is_whole:
                self.assertEqual(tuple(sorted({other for other, _ in tied})), group_of[one])
                for step in steps:
                    self.assertIn((one, step), tied)

    def test_rounds_that_meet_anywhere_do_so_at_both_places_moved(self):
        for program, lot in samples(24, 100, 2, 2):
            depth = program[0]
            for place in itertools.islice(itertools.product(range(-2, 3), repeat=depth), 40):
                moved = tuple(part + SIXTY for part in place)
                at = (0,) * depth, (SIXTY,) * depth
                told = do_meet(program, lot, (0, at[0]), (0, place))
                self.assertEqual(do_meet(program, lot, (0, at[1]), (0, moved)), told)
                if told:
                    self.assertTrue(is_step(program, lot, 0, place))


class TestTies(unittest.TestCase):
    def test_rounds_meet_by_each_tie(self):
        for program, lot in samples(25, 150, 4, 9):
            start, far = (0,) * program[0], (SIXTY,) * program[0]
            for one, other, step in lattices.ties(program, lot):
                self.assertTrue(do_meet(program, lot, (one, start), (other, step)))
                moved = tuple(part + by for part, by in zip(far, step))
                self.assertTrue(do_meet(program, lot, (one, far), (other, moved)))

    def test_places_of_a_group_are_those_of_tied_rounds(self):
        for lot, first, told in (
                ((), [0, 1, 2], [(0, 0), (0, 0), (0, 0)]), ((0, 1), [0, 0, 0], [(0, 0), (0, 0), (0, 1)]),
                ((2,), [0, 1, 0], [(0, 0), (0, 0), (2, 5)]), ((1, 2), [0, 0, 0], [(0, 0), (2, 4), (2, 5)])):
            leads, places, rings = lattices.joined(TRIANGLE, lattices.ties(TRIANGLE, lot))
            self.assertEqual((leads, places), (first, told))
            self.assertFalse(any(any(ring) for found in rings for ring in found))


class TestInterface(unittest.TestCase):
    def test_names_of_arguments(self):
        check_names(self, lattices, {
            "groups": ["program", "lot"],
            "basis": ["program", "lot", "statement"],
            "ways_apart": ["program", "lot", "statement"],
            "is_step": ["program", "lot", "statement", "place"],
        })

    def test_by_name(self):
        self.assertEqual(groups(lot=(0,), program=LINE), ((0,),))
        self.assertEqual(basis(statement=0, lot=(0,), program=PLANE), ((1, -1),))
        self.assertEqual(ways_apart(statement=0, lot=(0,), program=PLANE), (1, ()))
        self.assertTrue(is_step(place=(2, -2), statement=0, lot=(0,), program=PLANE))


def check_wrong_groups(test, call):
    """The call refuses a wrong PROGRAM, then a wrong LOT, then a wrong statement."""
    for program in PROGRAMS:
        for thing in no_numbers(program):
            check_refused(test, BadNumber, "value", thing, call, program, (), thing)
        for thing in no_lots(program):
            check_refused(test, BadLot, "value", thing, call, program, thing, None)
    for thing, place in no_programs():
        check_refused(test, BadProgram, "place", place, call, thing, None, None)


def determinant(rows):
    if not rows:
        return 1
    return sum((-1) ** at * rows[0][at] * determinant([row[:at] + row[at + 1:] for row in rows[1:]])
               for at in range(len(rows)))


def divisors_by_minors(rows):
    """The divisors, each the greatest common one of all minors by that of smaller ones."""
    common = [1]
    for many in range(1, len(rows) + 1):
        minors = [determinant([[row[at] for at in columns] for row in some])
                  for some in itertools.combinations(rows, many)
                  for columns in itertools.combinations(range(len(rows[0])), many)]
        common.append(math.gcd(*minors))
    return [after // before for before, after in zip(common, common[1:])]


def remainder(place, steps):
    for step in steps:
        column = [at for at, part in enumerate(step) if part][0]
        times = place[column] // step[column]
        place = tuple(part - times * by for part, by in zip(place, step))
    return place


if __name__ == "__main__":
    unittest.main()

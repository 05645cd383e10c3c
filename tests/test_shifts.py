"""Point 55: the least number of broken pairs by a ROW and a MODULUS, and the first SHIFTS."""

import itertools
import unittest

from owncells import shifts
from owncells.errors import BadBox, BadLot, BadNumber, BadProgram, BadRow, TooGreat
from owncells.sending import broken_pairs, meeting_pairs
from owncells.shifts import best_shifts, least_broken
from tests.samples import (
    LINE, PLANE, PROGRAMS, SIXTY, SPACE, TRIANGLE, Sequence, check_names, check_refused, check_told,
    no_lots, no_moduli, no_programs, no_rows, no_sides, pairs_within, samples)

READ, WRITE = "read", "write"



def plain(*statements):
    """A PROGRAM of one loop over arrays with the matrix 1: references are pairs of an array
    and its one offset."""
    return (1, (((1,),),) * 4, tuple(tuple((array, (offset,), READ) for array, offset in references)
                                     for references in statements))


# Statement 1 meets 0 three steps on by array 0, statement 2 meets 1 a step back by array 1.
ROW_OF_THREE = plain(((0, 0),), ((0, 3), (1, 0)), ((1, -1),))

ONE_CELL = (1, (((0,),),), (((0, (0,), READ),),) * 4)

ALIKE = (1, (((1,),),), (((0, (0,), READ),),) * 4)


def broken_by_words(program, pairs, row, modulus):
    """A dict from each SHIFTS, ascending, to how many of the pairs are broken."""
    told = {}
    for rest in itertools.product(range(modulus), repeat=len(program[2]) - 1):
        by = (0,) + rest
        numbers = [(sum(map(int.__mul__, row, one[1])) + by[one[0]]
                    - sum(map(int.__mul__, row, other[1])) - by[other[0]]) % modulus for one, other in pairs]
        told[by] = sum(number != 0 for number in numbers)
    return told


class TestLeastBroken(unittest.TestCase):
    def check_both(self, program, lot, row, modulus, sides, told, first):
        check_told(self, told, least_broken, program, lot, row, modulus, sides)
        check_told(self, first, best_shifts, program, lot, row, modulus, sides)

    def test_ordinary_rows(self):
        # Statement 1 meets 0 three steps on, so its ROUNDS have the same NUMBERS by 3 more.
        for lot, row, modulus, sides, told, first in (
                ((0,), (1,), 12, (20,), 0, (0, 3, 0)), ((0, 1), (1,), 12, (20,), 0, (0, 3, 2)),
                ((0, 1), (1,), 2, (20,), 0, (0, 1, 0)), ((0, 1), (2,), 12, (20,), 0, (0, 6, 4)),
                ((0, 1), (2,), 2, (20,), 0, (0, 0, 0)), ((1,), (1,), 12, (20,), 0, (0, 0, 11)),
                ((0, 1), (-1,), 5, (20,), 0, (0, 2, 3)), ((), (7,), 12, (20,), 0, (0, 0, 0)),
                ((0, 1), (20,), 12, (2,), 0, (0, 0, 4)), ((0,), (1,), 12, (3,), 0, (0, 0, 0))):
            with self.subTest(lot=lot, row=row, modulus=modulus, sides=sides):
                self.check_both(ROW_OF_THREE, lot, row, modulus, sides, told, first)

    def test_pairs_that_can_not_be_kept(self):
        self.check_both(plain(((0, 0), (0, 1))), (0,), (1,), 2, (20,), 19, (0,))
        self.check_both(plain(((0, 0), (0, 1))), (0,), (2,), 2, (20,), 0, (0,))
        # Two statements meet by steps of 1 nineteen times, by steps of -2 once less.
        program = plain(((0, 0), (1, 0)), ((0, 1), (1, -2)))
        for lot, row, modulus, told, first in (
                ((0,), 1, 12, 0, 1), ((1,), 1, 12, 0, 10), ((0, 1), 1, 12, 18, 1), ((0, 1), 1, 3, 0, 1),
                ((0, 1), 5, 12, 18, 5), ((0, 1), 4, 12, 0, 4), ((0, 1), 1, 2, 18, 1)):
            self.check_both(program, lot, (row,), modulus, (20,), told, (0, first))
        self.check_both(plain(((0, 0), (1, 0)), ((0, -1), (1, 2))), (0, 1), (1,), 12, (20,), 18, (0, 11))

    def test_several_shifts_with_equally_few_broken_pairs(self):
        for step in (1, 5, -5):
            program = plain(((0, 0), (1, 0)), ((0, step), (1, -step)))
            self.check_both(program, (0, 1), (1,), 12, (20,), 20 - abs(step), (0, abs(step)))
        program = plain(((0, 0), (1, 0)), ((0, 1), (2, 0)), ((1, 1), (2, 5)))
        self.check_both(program, (0, 1), (1,), 12, (20,), 0, (0, 1, 1))
        self.check_both(program, (2,), (1,), 12, (20,), 0, (0, 0, 5))
        self.check_both(program, (0, 2), (1,), 12, (20,), 0, (0, 1, 6))

    def test_one_statement_and_four(self):
        for modulus in (2, 3, 12):
            self.check_both(LINE, (0,), (20,), modulus, (20,), 0, (0,))
            self.check_both(ALIKE, (0,), (1,), modulus, (20,), 0, (0, 0, 0, 0))
            self.check_both(ALIKE, (), (1,), modulus, (20,), 0, (0, 0, 0, 0))
        # All ROUNDS meet; those with the same NUMBER are kept, however they are shifted.
        self.check_both(ONE_CELL, (0,), (0,), 12, (20,), 0, (0, 0, 0, 0))
        self.check_both(ONE_CELL, (0,), (1,), 2, (20,), 1600, (0, 0, 0, 0))
        self.check_both(ONE_CELL, (0,), (1,), 5, (20,), 2560, (0, 0, 0, 0))
        # Of three places two have the same NUMBER, and so have eight ROUNDS of four statements.
        self.check_both(ONE_CELL, (0,), (1,), 2, (3,), 32, (0, 0, 0, 0))
        self.check_both(ONE_CELL, (0,), (1,), 2, (1,), 0, (0, 0, 0, 0))

    def test_what_comes_behind_counts(self):
        # By the SHIFT 9 of statement 1 eleven pairs are kept, but twenty others want 0.
        program = plain(((0, 0), (1, 0)), ((0, 9), (2, 0)), ((1, 0), (2, 0)))
        self.check_both(program, (0, 1, 2), (1,), 12, (20,), 11, (0, 0, 0))
        self.check_both(program, (0, 1), (1,), 12, (20,), 0, (0, 9, 0))

    def test_as_all_shifts_and_all_pairs_say(self):
        found = set()
        numbers = Sequence(111)
        for program, lot in samples(112, 260, 2, 3):
            most = 12 if len(program[2]) < 3 else 5 if len(program[2]) == 3 else 3
            modulus = numbers.between(2, most)
            row = tuple(numbers.between(-20, 20) for _ in range(program[0]))
            lows = [numbers.between(-9, 9) for _ in row]
            sides = tuple(numbers.between(1, (0, 9, 4, 3)[program[0]]) for _ in row)
            box = tuple((low, low + side - 1) for low, side in zip(lows, sides))
            told = broken_by_words(program, pairs_within(program, lot, box), row, modulus)
            least = min(told.values())
            first = [by for by, many in told.items() if many == least][0]
            self.check_both(program, lot, row, modulus, sides, least, first)
            form = (modulus, tuple((row, by) for by in first))
            self.assertEqual(broken_pairs(program, lot, form, sides), least)
            found.add((first, least))
        self.assertGreater(len(found), 60)

    def test_greatest_moduli_of_four_statements(self):
        numbers = Sequence(113)
        for _ in range(6):
            program = plain(*[[(array, numbers.between(-9, 9)) for array in range(3)] for _ in range(4)])
            pairs = pairs_within(program, (0, 1, 2), ((0, 9),))
            told = broken_by_words(program, pairs, (1,), 12)
            least = min(told.values())
            first = [by for by, many in told.items() if many == least][0]
            self.check_both(program, (0, 1, 2), (1,), 12, (10,), least, first)

    def test_forms_that_differ_just_by_the_modulus(self):
        for program in (PLANE, TRIANGLE):
            lot = tuple(range(len(program[1])))
            for row in ((3, -5), (15, -17), (-9, 7)):
                told = least_broken(program, lot, row, 12, (5, 6))
                self.assertEqual(least_broken(program, lot, (3, -5), 12, (5, 6)), told)
                self.assertLessEqual(told, meeting_pairs(program, lot, (5, 6)))

    def test_rows_of_20_and_of_21(self):
        for program in PROGRAMS:
            for far in (20, -20):
                row = (far,) * program[0]
                sides = (2,) * program[0]
                self.assertIs(least_broken(program, (), row, 2, sides).__class__, int)
                for at in range(program[0]):
                    wrong = row[:at] + (far + far // 20,) + row[at + 1:]
                    check_wrong(self, BadRow, "value", wrong, program, (), wrong, 2, sides)

    def test_moduli_of_2_and_12(self):
        for modulus in range(2, 13):
            self.check_both(ROW_OF_THREE, (0,), (1,), modulus, (20,), 0, (0, 3 % modulus, 0))
        for modulus in (0, 1, 13, -2, -12):
            check_wrong(self, BadNumber, "value", modulus, ROW_OF_THREE, (0,), (1,), modulus, (20,))

    def test_sides_of_1_and_20(self):
        for program in PROGRAMS:
            lot = tuple(range(len(program[1])))
            row = (3,) * program[0]
            self.assertEqual(least_broken(program, lot, row, 7, (1,) * program[0]), 0)
            for side in (0, 21):
                sides = (1,) * (program[0] - 1) + (side,)
                check_wrong(self, BadBox, "value", sides, program, lot, row, 7, sides)
        self.assertEqual(best_shifts(PLANE, (), (1, 1), 7, (20, 20)), (0, 0, 0))

    def test_5000_steps_and_more(self):
        self.check_both(SPACE, (2,), (0, 1, 3), 3, (9, 9, 9), 9 ** 3 * (9 ** 3 - 243) // 2, (0, 0))
        self.check_both(SPACE, (), (0, 1, 3), 3, (3, 14, 19), 0, (0, 0))
        for sides in ((6, 7, 18), (20, 20, 20), (20, 8, 5)):
            check_wrong(self, TooGreat, "most", 5000, SPACE, (), (1, 1, 1), 2, sides)
            check_wrong(self, BadNumber, "value", 1, SPACE, (), (1, 1, 1), 1, sides)
            check_wrong(self, BadRow, "value", (1, 1), SPACE, (), (1, 1), 2, sides)

    def test_wrong_arguments_in_their_order(self):
        for program in PROGRAMS:
            row = (1,) * program[0]
            for thing in no_sides(program):
                check_wrong(self, BadBox, "value", thing, program, (), row, 2, thing)
            for thing in no_moduli(2, 12):
                check_wrong(self, BadNumber, "value", thing, program, (), row, thing, None)
            for thing in no_rows(program):
                check_wrong(self, BadRow, "value", thing, program, (), thing, 0, None)
            for thing in no_lots(program):
                check_wrong(self, BadLot, "value", thing, program, thing, None, 0, None)
        for thing, place in no_programs():
            check_wrong(self, BadProgram, "place", place, thing, None, None, SIXTY, None)


class TestInterface(unittest.TestCase):
    def test_names_of_arguments(self):
        names = ["program", "lot", "row", "modulus", "sides"]
        check_names(self, shifts, {"least_broken": names, "best_shifts": names})

    def test_by_name(self):
        for call, told in ((least_broken, 0), (best_shifts, (0, 3, 2))):
            self.assertEqual(call(sides=(20,), modulus=12, row=(1,), lot=(0, 1), program=ROW_OF_THREE), told)


def check_wrong(test, error, field, told, *passed):
    """Both functions refuse it."""
    check_refused(test, error, field, told, least_broken, *passed)
    check_refused(test, error, field, told, best_shifts, *passed)


if __name__ == "__main__":
    unittest.main()

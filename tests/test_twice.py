"""Point 45: LOTS that are enough, the greatest of them, and the fewest arrays kept twice."""

import unittest

from owncells import twice
from owncells.errors import BadLot, BadNumber, BadProgram
from owncells.hands import many_hands
from owncells.twice import fewest_twice, greatest_lots, is_enough
from tests.samples import (
    LINE, PLANE, PROGRAMS, SIXTY, TRIANGLE, Sequence, check_names, check_refused, check_told,
    lots_of, no_lots, no_programs, no_wanted, one_loop, samples)

READ, WRITE = "read", "write"

UNIT = ((1, 0, 0), (0, 1, 0), (0, 0, 1))

MOST = 10 ** 9

# By array 0 alone there are six hands, by 1 alone four; by both two.
SIX_AND_FOUR = one_loop(((0, 0), (0, 6), (1, 0), (1, 8)))

# Arrays of just one cell, so that all ROUNDS that touch one are tied.
CELLS = (2, (((0, 0),),) * 4, (((0, (0,), READ), (1, (0,), READ)), ((2, (0,), READ), (3, (0,), WRITE))))


def enough_by_words(program, lot, wanted):
    many = many_hands(program, lot)
    if wanted is None:
        return many is None
    return many is None or many >= wanted


def greatest_by_words(program, wanted):
    """All LOTS that are enough, and within no other one that is."""
    enough = [lot for lot in lots_of(program) if enough_by_words(program, lot, wanted)]
    return tuple(sorted(lot for lot in enough if not any(set(lot) < set(other) for other in enough)))


def fewest_by_words(program, wanted):
    """The first one of the LOTS of as few arrays as can be, the others of which are enough."""
    arrays = range(len(program[1]))
    for lot in lots_of(program):
        if enough_by_words(program, tuple(array for array in arrays if array not in lot), wanted):
            return lot
    return None


class TestIsEnough(unittest.TestCase):
    def test_ordinary_lots(self):
        for lot, wanted, told in (
                ((0, 1), 1, True), ((0, 1), 2, True), ((0, 1), 3, False), ((0, 1), None, False), ((0,), 6, True),
                ((0,), 7, False), ((1,), 4, True), ((1,), 5, False), ((1,), None, False), ((2, 3), None, True),
                ((2, 3), MOST, True), ((0, 2, 3), 6, True), ((0, 1, 2, 3), 3, False), ((0, 1), MOST, False)):
            with self.subTest(lot=lot, wanted=wanted):
                check_told(self, told, is_enough, SIX_AND_FOUR, lot, wanted)

    def test_an_empty_lot_is_enough(self):
        for program in PROGRAMS + (TRIANGLE, CELLS):
            for wanted in (1, 2, MOST, None):
                check_told(self, True, is_enough, program, (), wanted)

    def test_one_hand_is_always_there(self):
        for program, lot in samples(91, 80, 4, 9):
            check_told(self, True, is_enough, program, lot, 1)

    def test_groups_are_counted_together(self):
        program = one_loop(((0, 0), (0, 3)), ((1, 0), (1, 8)))
        for wanted, told in ((7, True), (8, False), (None, False)):
            check_told(self, told, is_enough, program, (0, 1), wanted)
        for wanted in (8, None):
            check_told(self, True, is_enough, program, (0,), wanted)

    def test_great_numbers_of_hands(self):
        references = tuple((0, offset, READ) for offset in ((-9, -9, -9), (9, -9, -9), (-9, 9, -9), (-9, -9, 9)))
        program = (3, (UNIT,), (references,))
        for wanted, told in ((18 ** 3, True), (18 ** 3 + 1, False), (MOST, False), (None, False)):
            check_told(self, told, is_enough, program, (0,), wanted)

    def test_a_lot_within_one_that_is_enough_is_enough(self):
        numbers = Sequence(92)
        for program, lot in samples(93, 80, 3, 4):
            for wanted in (2, numbers.between(3, 30), None):
                if is_enough(program, lot, wanted):
                    for part in lots_of(program):
                        if set(part) <= set(lot):
                            check_told(self, True, is_enough, program, part, wanted)

    def test_as_many_hands_say(self):
        found = {True: 0, False: 0}
        for program, lot in samples(94, 200, 3, 5):
            for wanted in (1, 2, 5, 9, MOST, None):
                told = enough_by_words(program, lot, wanted)
                check_told(self, told, is_enough, program, lot, wanted)
                found[told] += 1
        self.assertGreater(min(found.values()), 100)

    def test_wrong_arguments_in_their_order(self):
        for program in PROGRAMS:
            for thing in no_wanted():
                check_refused(self, BadNumber, "value", thing, is_enough, program, (), thing)
            for thing in no_lots(program):
                check_refused(self, BadLot, "value", thing, is_enough, program, thing, 0)
        for thing, place in no_programs():
            check_refused(self, BadProgram, "place", place, is_enough, thing, None, 0)


class TestGreatestLots(unittest.TestCase):
    def test_ordinary_programs(self):
        for wanted, told in (
                (1, ((0, 1, 2, 3),)), (2, ((0, 1, 2, 3),)), (3, ((0, 2, 3), (1, 2, 3))), (4, ((0, 2, 3), (1, 2, 3))),
                (5, ((0, 2, 3),)), (6, ((0, 2, 3),)), (7, ((2, 3),)), (MOST, ((2, 3),)), (None, ((2, 3),))):
            with self.subTest(wanted=wanted):
                check_told(self, told, greatest_lots, SIX_AND_FOUR, wanted)

    def test_all_arrays(self):
        for program in (LINE, PLANE, TRIANGLE):
            for wanted in (1, MOST, None):
                check_told(self, (tuple(range(len(program[1]))),), greatest_lots, program, wanted)

    def test_none_but_the_empty_one(self):
        # Each array ties all ROUNDS.
        program = (1, (((0,),),) * 4, (tuple((array, (0,), READ) for array in range(4)),))
        check_told(self, ((0, 1, 2, 3),), greatest_lots, program, 1)
        for wanted in (2, MOST, None):
            check_told(self, ((),), greatest_lots, program, wanted)

    def test_several_of_unlike_sizes(self):
        # Statement 0 is free by neither 0 nor 1, statement 1 by neither 2 nor 3.
        check_told(self, ((0, 1, 2, 3),), greatest_lots, CELLS, 2)
        for wanted in (3, None):
            check_told(self, ((0, 1), (2, 3)), greatest_lots, CELLS, wanted)
        program = (1, (((0,),), ((0,),), ((0,),)), (((0, (0,), READ),), ((1, (0,), READ), (2, (0,), READ))))
        check_told(self, ((0,), (1, 2)), greatest_lots, program, None)
        check_told(self, ((0, 1, 2),), greatest_lots, program, 2)

    def test_as_all_lots_say(self):
        found = set()
        numbers = Sequence(95)
        for program, _ in samples(96, 250, 3, 5):
            for wanted in (2, numbers.between(3, 12), MOST, None):
                told = greatest_by_words(program, wanted)
                check_told(self, told, greatest_lots, program, wanted)
                found.add(told)
        self.assertGreater(len(found), 20)
        self.assertGreater(max(len(told) for told in found), 2)

    def test_wrong_arguments_in_their_order(self):
        check_wrong_wanted(self, greatest_lots)


class TestFewestTwice(unittest.TestCase):
    def test_ordinary_programs(self):
        for wanted, told in ((1, ()), (2, ()), (3, (0,)), (4, (0,)), (5, (1,)), (6, (1,)), (7, (0, 1)), (None, (0, 1))):
            with self.subTest(wanted=wanted):
                check_told(self, told, fewest_twice, SIX_AND_FOUR, wanted)

    def test_no_array_and_every_array(self):
        for program in (LINE, PLANE, TRIANGLE):
            check_told(self, (), fewest_twice, program, None)
        for many in range(1, 5):
            program = (1, (((0,),),) * many, (tuple((array, (0,), READ) for array in range(many)),))
            check_told(self, (), fewest_twice, program, 1)
            check_told(self, tuple(range(many)), fewest_twice, program, 2)
            check_told(self, tuple(range(many)), fewest_twice, program, None)

    def test_the_first_one_of_several(self):
        check_told(self, (0, 1), fewest_twice, CELLS, None)
        program = (1, (((0,),),) * 3, (((0, (0,), READ), (1, (0,), READ)), ((2, (0,), READ),)))
        check_told(self, (2,), fewest_twice, program, None)
        program = (1, (((1,),), ((0,),), ((0,),)), (((1, (0,), READ),), ((2, (0,), READ),)))
        check_told(self, (1,), fewest_twice, program, 3)

    def test_as_all_lots_say(self):
        found = set()
        numbers = Sequence(97)
        for program, _ in samples(98, 250, 3, 5):
            for wanted in (2, numbers.between(3, 12), MOST, None):
                told = fewest_by_words(program, wanted)
                check_told(self, told, fewest_twice, program, wanted)
                found.add(told)
        self.assertGreater(len(found), 6)

    def test_wrong_arguments_in_their_order(self):
        check_wrong_wanted(self, fewest_twice)


class TestInterface(unittest.TestCase):
    def test_names_of_arguments(self):
        check_names(self, twice, {
            "is_enough": ["program", "lot", "wanted"],
            "greatest_lots": ["program", "wanted"],
            "fewest_twice": ["program", "wanted"],
        })

    def test_by_name(self):
        self.assertTrue(is_enough(wanted=6, lot=(0,), program=SIX_AND_FOUR))
        self.assertEqual(greatest_lots(wanted=6, program=SIX_AND_FOUR), ((0, 2, 3),))
        self.assertEqual(fewest_twice(wanted=6, program=SIX_AND_FOUR), (1,))


def check_wrong_wanted(test, call):
    """The call takes each WANTED, and refuses a wrong PROGRAM, then what is not WANTED."""
    for program in PROGRAMS:
        for wanted in (1, MOST, None):
            test.assertIs(call(program, wanted).__class__, tuple)
        for thing in no_wanted():
            check_refused(test, BadNumber, "value", thing, call, program, thing)
    for thing, place in no_programs():
        check_refused(test, BadProgram, "place", place, call, thing, SIXTY)


if __name__ == "__main__":
    unittest.main()

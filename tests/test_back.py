"""Point 60: all FORMS that keep a LOT and give ROUNDS the NUMBERS that were seen."""

import itertools
import unittest

from owncells import back
from owncells.back import fitting
from owncells.errors import BadLot, BadNumber, BadProgram, BadSeen, TooGreat
from owncells.forms import does_keep
from tests.samples import (
    LINE, NO_LISTS, PLANE, PROGRAMS, SIXTY, SPACE, TRIANGLE, Sequence, check_names, check_refused,
    check_told, form_of, lots_of, nested, no_lots, no_moduli, no_programs, no_rounds,
    number_of, one_loop)

READ, WRITE = "read", "write"

UNIT = ((1, 0, 0), (0, 1, 0), (0, 0, 1))

# Four statements, all ROUNDS of which touch one cell.
ONE_CELL = (3, (((0, 0, 0),), UNIT), (((0, (0,), READ), (1, (0, 1, 2), WRITE)),) * 4)


def apart(depth, many):
    """A PROGRAM with so many statements, each with an array of its own."""
    matrix = tuple(row[:depth] for row in UNIT[:depth])
    return depth, (matrix,) * many, tuple(((array, (0,) * depth, READ),) for array in range(many))


def forms_by_words(program, lot, modulus, seen):
    """All FORMS with integers from 0 to less than the MODULUS that fit, ascending."""
    depth, _, statements = program
    rows = list(itertools.product(range(modulus), repeat=depth))
    terms = [(row, shift) for row in rows for shift in range(modulus)]
    every = [(modulus, those) for those in itertools.product(terms, repeat=len(statements))]
    return tuple(form for form in every if all(number_of(form, one) == told for one, told in seen)
                 and does_keep(program, lot, form))


def seen_by(form, rounds):
    """SEEN of what the FORM tells of the ROUNDS."""
    return tuple((one, number_of(form, one)) for one in rounds)


def no_pairs(program, modulus):
    """Values that are no pair of a ROUND and a remainder."""
    good = (0, (0,) * program[0])
    return NO_LISTS + ((), (good,), (good, 0, 0), [good, 0], (0, good), nested(48)) + tuple(
        (good, thing) for thing in (
            modulus, -1, SIXTY, True, False, None, "0", b"", (), (0,), [0], {})) + tuple(
                (thing, 0) for thing in no_rounds(program))


class TestFitting(unittest.TestCase):
    def test_nothing_seen(self):
        for modulus in (2, 3, 4, 5):
            told = tuple(form_of(modulus, (factor, shift)) for factor in range(modulus) for shift in range(modulus))
            check_told(self, told, fitting, LINE, (0,), modulus, ())
            # By steps of 6, the ROW times 6 has to be a multiple of the MODULUS.
            program = one_loop(((0, 0), (0, 6)))
            told = tuple(form for form in told if form[1][0][0][0] * 6 % modulus == 0)
            check_told(self, told, fitting, program, (0,), modulus, ())

    def test_ordinary_rounds(self):
        program = one_loop(((0, 0),), ((0, 2),))
        seen = (((0, (1,)), 2), ((1, (5,)), 1))
        # ROW is r, SHIFT 2 - r, then 2 - r + 2r of the other one: 2 + 6r is 1 by remainders by 5.
        check_told(self, (form_of(5, (4, 3), (4, 1)),), fitting, program, (0,), 5, seen)
        # By 4, 2 + 6r is never 1; by 3 it never is.
        check_told(self, (), fitting, program, (0,), 4, seen)
        check_told(self, (), fitting, program, (0,), 3, seen)
        # Both statements alone: each ROW has its SHIFT.
        told = tuple(form_of(3, (one, (2 - one) % 3), (other, (1 - 5 * other) % 3))
                     for one in range(3) for other in range(3))
        check_told(self, told, fitting, program, (), 3, seen)

    def test_two_rounds_of_one_statement(self):
        for modulus, near, far, told in (
                (5, 1, 3, ((2, 1),)), (4, 1, 3, ((1, 1), (3, 1))), (4, 1, 2, ()), (4, 0, 0, ((0, 0), (2, 0))),
                (2, 0, 0, ((0, 0), (1, 0))), (2, 1, 0, ()), (3, 2, 0, ((2, 2),))):
            # The PLACES are 0 and 6 by 5, else 0 and 2.
            place = (6,) if modulus == 5 else (2,)
            seen = (((0, (0,)), near), ((0, place), far))
            forms = tuple(form_of(modulus, pair) for pair in told)
            check_told(self, forms, fitting, LINE, (0,), modulus, seen)

    def test_a_round_that_was_seen_twice(self):
        one = (0, (3,))
        check_told(self, fitting(LINE, (0,), 3, ((one, 1),)), fitting, LINE, (0,), 3, ((one, 1),) * 20)
        check_told(self, (), fitting, LINE, (0,), 3, ((one, 1), (one, 2)))
        check_told(self, (), fitting, LINE, (0,), 3, ((one, 1),) * 19 + ((one, 2),))

    def test_tied_rounds(self):
        # ROUNDS (0, (2, 1)) and (1, (0, 0)) are tied by arrays 0 and 1.
        near, far = (0, (2, 1)), (1, (0, 0))
        check_told(self, (), fitting, PLANE, (0, 1), 2, ((near, 1), (far, 0)))
        told = fitting(PLANE, (0, 1), 2, ((near, 1), (far, 1)))
        self.assertEqual(told, fitting(PLANE, (0, 1), 2, ((near, 1),)))
        self.assertEqual(len(told), 2 * 8)

    def test_twenty_seen_and_twenty_one(self):
        form = (5, (((1, 4), 2),) * 3)
        rounds = [(statement, (part, part * part)) for part in range(7) for statement in range(3)]
        check_told(self, (form,), fitting, PLANE, (), 5, seen_by(form, rounds[:20]))
        check_refused(self, BadSeen, "place", (), fitting, PLANE, (), 5, seen_by(form, rounds[:21]))
        check_refused(self, BadSeen, "place", (), fitting, PLANE, (), 5, (None,) * 21)

    def test_as_all_forms_say(self):
        found = set()
        numbers = Sequence(121)
        for depth, many, moduli in (
                (1, 1, (2, 3, 4, 5)), (1, 2, (2, 3, 4, 5)), (1, 3, (2, 3)), (1, 4, (2,)), (2, 1, (2, 3, 4, 5)),
                (2, 2, (2, 3)), (2, 3, (2,)), (3, 1, (2, 3, 4, 5)), (3, 2, (2,))):
            for modulus in moduli:
                for _ in range(8):
                    program = self.some_program(numbers, depth, many)
                    lot = numbers.lot(program)
                    told = self.check_program(numbers, program, lot, modulus)
                    found.add((depth, many, modulus, told))
        self.assertGreater(len(found), 40)

    def some_program(self, numbers, depth, many):
        _, arrays, statements = numbers.program(depth, 2, 3)
        while len(statements) < many:
            statements += ((numbers.reference(arrays, 3),),)
        return depth, arrays, statements[:many]

    def check_program(self, numbers, program, lot, modulus):
        """FORMS that fit what one of them, or any NUMBERS, tell; how many there were at last."""
        every = forms_by_words(program, lot, modulus, ())
        for most in (0, 1, 2, 4, 9):
            form = every[numbers.under(len(every))]
            rounds = [(numbers.under(len(program[2])), tuple(numbers.between(-9, 9) for _ in range(program[0])))
                      for _ in range(most)]
            seen = seen_by(form, rounds)
            if most and numbers.under(4) == 0:
                seen = seen[:-1] + ((seen[-1][0], numbers.under(modulus)),)
            told = tuple(form for form in every if all(number_of(form, one) == part for one, part in seen))
            if len(told) > 500:
                check_refused(self, TooGreat, "most", 500, fitting, program, lot, modulus, seen)
            else:
                check_told(self, told, fitting, program, lot, modulus, seen)
        return len(told)

    def test_500_forms_and_more(self):
        # A ROW and a SHIFT for each statement, less the one that the first ROUND leaves.
        for program, modulus, many, more in (
                (apart(3, 2), 2, 256, 0), (apart(1, 4), 2, 256, 0), (apart(2, 3), 2, 512, 1), (apart(2, 2), 3, 729, 1),
                (apart(1, 3), 3, 729, 1), (apart(3, 1), 4, 256, 0), (apart(3, 1), 5, 625, 1), (apart(2, 1), 5, 125, 0),
                (apart(1, 2), 5, 625, 1), (apart(1, 2), 4, 256, 0), (apart(3, 4), 2, 2 ** 16, 1)):
            if more:
                check_refused(self, TooGreat, "most", 500, fitting, program, (), modulus, ())
            else:
                told = fitting(program, (), modulus, ())
                self.assertEqual(told, forms_by_words(program, (), modulus, ()))
                self.assertEqual(len(told), many)
        seen = (((0, (0, 0)), 1),)
        for program, modulus, many in ((apart(2, 3), 2, 256), (apart(2, 2), 3, 243)):
            self.assertEqual(fitting(program, (), modulus, seen), forms_by_words(program, (), modulus, seen))
            self.assertEqual(len(fitting(program, (), modulus, seen)), many)

    def test_very_many_forms_could_be_written_down(self):
        program = apart(3, 4)
        check_refused(self, TooGreat, "most", 500, fitting, program, (0,), 5, ())
        near = [(statement, row) for statement in range(4) for row in ((0, 0, 0),) + UNIT]
        form = (5, (((1, 2, 3), 4), ((0, 0, 0), 1), ((4, 4, 4), 0), ((2, 0, 1), 3)))
        check_told(self, (form,), fitting, program, (), 5, seen_by(form, near))
        for less, many in ((1, 5), (2, 25), (3, 125)):
            told = fitting(program, (), 5, seen_by(form, near[less:]))
            self.assertEqual(len(told), many)
            self.assertEqual(list(told), sorted(told))
            self.assertIn(form, told)
        check_refused(self, TooGreat, "most", 500, fitting, program, (), 5, seen_by(form, near[4:]))
        # One statement can't be as it was seen; of the others there would be very many.
        one = (0, (0, 0, 0))
        check_told(self, (), fitting, program, (), 5, ((one, 1), (one, 2)))
        one = (3, (0, 0, 0))
        check_told(self, (), fitting, program, (), 5, ((one, 1), (one, 2)))

    def test_one_cell_joins_all(self):
        check_told(self, tuple((5, (((0, 0, 0), shift),) * 4) for shift in range(5)), fitting, ONE_CELL, (0,), 5, ())
        told = ((4, (((0, 0, 0), 3),) * 4),)
        check_told(self, told, fitting, ONE_CELL, (0, 1), 4, (((2, (SIXTY, -SIXTY, 9)), 3),))

    def test_places_of_sixty_digits(self):
        form = (5, (((3, 1), 4), ((3, 1), 4), ((2, 2), 0)))
        rounds = [(statement, (SIXTY * far, -SIXTY * near)) for far, near in ((1, 2), (2, 7), (3, 3))
                  for statement in range(3)]
        check_told(self, (form,), fitting, PLANE, (), 5, seen_by(form, rounds))

    def test_rings(self):
        form = (2, (((1, 1), 0), ((0, 1), 1), ((1, 0), 1)))
        seen = seen_by(form, [(2, (0, 0)), (1, (1, 0)), (0, (1, 2))])
        for lot in lots_of(TRIANGLE):
            check_told(self, forms_by_words(TRIANGLE, lot, 2, seen), fitting, TRIANGLE, lot, 2, seen)
        # The ring has the step (2, 4), so that by 4 just ROWS with an even first integer fit.
        told = fitting(TRIANGLE, (0, 1, 2), 4, ())
        self.assertEqual({form[1][0][0] for form in told}, set(itertools.product((0, 2), range(4))))
        self.assertEqual(len(told), 2 * 4 * 4)
        for form in told:
            self.assertTrue(does_keep(TRIANGLE, (0, 1, 2), form))

    def test_wrong_arguments_in_their_order(self):
        for program in PROGRAMS:
            good = ((0, (0,) * program[0]), 1)
            for thing in NO_LISTS + ([good], {good: 1}, (good,) * 21):
                check_refused(self, BadSeen, "place", (), fitting, program, (), 2, thing)
            for thing in no_pairs(program, 3):
                check_refused(self, BadSeen, "place", (0,), fitting, program, (), 3, (thing,))
            for spot in (1, 2, 18):
                for thing in no_pairs(program, 3)[::5]:
                    seen = (good,) * spot + (thing, None)
                    check_refused(self, BadSeen, "place", (spot,), fitting, program, (), 3, seen)
            check_refused(self, BadSeen, "place", (19,), fitting, program, (), 2, (good,) * 19 + (None,))
            for thing in no_moduli(2, 5):
                check_refused(self, BadNumber, "value", thing, fitting, program, (), thing, None)
            for thing in no_lots(program):
                check_refused(self, BadLot, "value", thing, fitting, program, thing, 6, None)
        for thing, place in no_programs():
            check_refused(self, BadProgram, "place", place, fitting, thing, None, 6, None)
        # What is too great is told behind all of these.
        check_refused(self, BadSeen, "place", (0,), fitting, apart(3, 4), (), 5, (None,))

    def test_remainders_by_each_modulus(self):
        for modulus in (2, 3, 4, 5):
            for part in range(modulus):
                seen = (((0, (0,)), part),)
                told = tuple(form_of(modulus, (factor, part)) for factor in range(modulus))
                check_told(self, told, fitting, LINE, (0,), modulus, seen)
            seen = (((0, (0,)), modulus),)
            check_refused(self, BadSeen, "place", (0,), fitting, LINE, (0,), modulus, seen)


class TestInterface(unittest.TestCase):
    def test_names_of_arguments(self):
        check_names(self, back, {"fitting": ["program", "lot", "modulus", "seen"]})

    def test_by_name(self):
        self.assertEqual(fitting(seen=(((0, (0,)), 1), ((0, (1,)), 0)), modulus=3, lot=(0,), program=LINE),
                         (form_of(3, (2, 1)),))
        self.assertEqual(fitting(seen=(), modulus=2, lot=(2,), program=SPACE)[0][0], 2)


if __name__ == "__main__":
    unittest.main()

"""Points 30 and 31: FORMS, NUMBERS, DEALINGS, HANDS, right and finest ones."""

import unittest

from owncells import forms
from owncells.errors import BadDealing, BadForm, BadLot, BadProgram, BadRound
from owncells.forms import does_keep, finest, hand, is_finest, is_right, number
from owncells.hands import head
from owncells.lattices import groups, ways_apart
from tests.samples import (
    LINE, PLANE, PROGRAMS, SIXTY, TRIANGLE, Sequence, check_names, check_refused, check_told,
    form_of, lots_of, no_dealings, no_forms, no_lots, no_programs, no_rounds, number_of,
    one_loop, pairs_within, rounds_within, samples)

READ, WRITE = "read", "write"

MOST = 10 ** 30

UNIT = ((1, 0, 0), (0, 1, 0), (0, 0, 1))


def alone(depth, many):
    """A PROGRAM with so many alike statements."""
    matrix = tuple(row[:depth] for row in UNIT[:depth])
    return depth, (matrix,), (((0, (0,) * depth, WRITE),),) * many


def scaled(form, times, shift):
    """The FORM with all integers so many times, and a shift more."""
    modulus, terms = form
    return modulus, tuple((tuple(factor * times for factor in row), by * times + shift) for row, by in terms)


class TestNumber(unittest.TestCase):
    def test_ordinary_forms(self):
        for form, place, told in (((0, (2, -3), 5), (4, 1), 10), ((0, (0, 0), -7), (4, 1), -7),
                                  ((7, (2, -3), 5), (4, 1), 3), ((7, (2, -3), 5), (-4, 1), 1),
                                  ((2, (1, 1), 0), (-1, 0), 1), ((2, (1, 1), 0), (-1, 1), 0)):
            modulus, row, shift = form
            zero = ((9, 9), 1)
            for statement in range(3):
                terms = (zero,) * statement + ((row, shift),) + (zero,) * (2 - statement)
                check_told(self, told, number, PLANE, (modulus, terms), (statement, place))

    def test_moduli(self):
        for modulus, told in ((0, -5), (2, 1), (3, 1), (10, 5), (MOST - 1, MOST - 6), (MOST, MOST - 5)):
            check_told(self, told, number, LINE, form_of(modulus, (1, -8)), (0, (3,)))
        for modulus in (1, -1, -2, MOST + 1, True, False):
            form = form_of(modulus, (1, -8))
            check_refused(self, BadForm, "value", form, number, LINE, form, (0, (3,)))

    def test_sixty_digits(self):
        form = form_of(0, (SIXTY, -SIXTY))
        check_told(self, SIXTY * SIXTY - SIXTY, number, LINE, form, (0, (SIXTY,)))
        check_told(self, -SIXTY * SIXTY - SIXTY, number, LINE, form, (0, (-SIXTY,)))
        form = form_of(MOST, (SIXTY, -SIXTY))
        check_told(self, (SIXTY * SIXTY - SIXTY) % MOST, number, LINE, form, (0, (SIXTY,)))
        check_told(self, (-SIXTY * 2) % MOST, number, LINE, form, (0, (-1,)))

    def test_wrong_arguments_in_their_order(self):
        for program in PROGRAMS:
            form = (0, (((1,) * program[0], 0),) * len(program[2]))
            for thing in no_rounds(program):
                check_refused(self, BadRound, "value", thing, number, program, form, thing)
            for thing in no_forms(program):
                check_refused(self, BadForm, "value", thing, number, program, thing, None)
        for thing, place in no_programs():
            check_refused(self, BadProgram, "place", place, number, thing, None, None)


class TestHand(unittest.TestCase):
    def test_ordinary_dealings(self):
        one, other = (5, (((1, 1), 0),) * 3), (0, (((0, 2), 1), ((1, 0), 0), ((0, 0), 7)))
        for statement, told in ((0, (2, 9)), (1, (2, 3)), (2, (2, 7))):
            check_told(self, told, hand, PLANE, (one, other), (statement, (3, 4)))
            check_told(self, told[::-1], hand, PLANE, (other, one), (statement, (3, 4)))
            check_told(self, told[:1] * 2, hand, PLANE, (one, one), (statement, (3, 4)))
            check_told(self, (), hand, PLANE, (), (statement, (3, 4)))

    def test_thirteen_forms_and_fourteen(self):
        form = form_of(0, (2, 1))
        check_told(self, (7,) * 13, hand, LINE, (form,) * 13, (0, (3,)))
        check_refused(self, BadDealing, "place", (), hand, LINE, (form,) * 14, (0, (3,)))
        check_refused(self, BadDealing, "place", (12,), hand, LINE, (form,) * 12 + (None,), None)

    def test_wrong_arguments_in_their_order(self):
        for program in PROGRAMS:
            for thing in no_rounds(program):
                check_refused(self, BadRound, "value", thing, hand, program, (), thing)
            for thing, place in no_dealings(program):
                check_refused(self, BadDealing, "place", place, hand, program, thing, None)
        for thing, place in no_programs():
            check_refused(self, BadProgram, "place", place, hand, thing, None, None)


class TestDoesKeep(unittest.TestCase):
    def test_ordinary_forms(self):
        still = ((0, 0), 0)
        for lot, form, told in (
                ((0,), (0, (((1, 1), 5), still, still)), True),
                ((0,), (0, (((1, 2), 0), still, still)), False),
                ((0,), (3, (((1, 4), 0), still, still)), True),
                ((0,), (3, (((1, 3), 0), still, still)), False),
                ((0,), (0, (((-2, -2), 0), ((1, 0), 3), ((7, 8), 9))), True),
                ((1,), (0, (((1, 2), 0), ((1, 2), 5), still)), True),
                ((1,), (0, (((1, 2), 0), ((1, 2), 0), still)), False),
                ((1,), (5, (((1, 2), 0), ((1, 2), 0), still)), True),
                ((1,), (5, (((1, 2), 1), ((-4, 7), 6), still)), True),
                ((1,), (5, (((1, 2), 1), ((-4, 8), 6), still)), False),
                ((1,), (0, (((1, 2), 1), ((-4, 7), 6), still)), False),
                ((0, 1), (0, (((1, 2), 0), ((1, 2), 5), still)), False),
                ((0, 1), (0, (((1, 1), 0), ((1, 1), 3), still)), True),
                ((2,), (0, (still, ((1, 0), 0), ((1, 0), 9))), True),
                ((2,), (0, (still, ((1, 0), 9), ((1, 0), 0))), False)):
            with self.subTest(lot=lot, form=form):
                check_told(self, told, does_keep, PLANE, lot, form)

    def test_an_empty_lot_is_kept_by_each(self):
        for modulus in (0, 2, MOST):
            check_told(self, True, does_keep, PLANE, (), (modulus, (((1, 5), 0), ((9, 2), 1), ((0, 0), 3))))

    def test_arrays_of_one_cell(self):
        program = (1, (((0,),),), (((0, (0,), READ),), ((0, (0,), READ),), ((0, (1,), READ),)))
        for form, told in ((form_of(0, (0, 4), (0, 4), (1, 0)), False), (form_of(0, (0, 4), (0, 4), (0, 5)), True),
                           (form_of(0, (0, 4), (0, 5), (0, 4)), False),
                           (form_of(2, (2, 4), (4, 6), (6, 1)), True),
                           (form_of(2, (1, 4), (4, 6), (6, 1)), False)):
            check_told(self, told, does_keep, program, (0,), form)

    def test_moduli(self):
        program = one_loop(((0, 0), (0, 6)))
        for modulus, factor, told in (
                (0, 1, False), (0, 0, True), (2, 1, True), (3, 1, True), (6, 1, True), (4, 1, False),
                (12, 1, False),
                (12, 2, True), (MOST, 1, False), (MOST, MOST // 2, True), (MOST, MOST, True),
                (MOST, -MOST * 9, True),
                (MOST - 1, (MOST - 1) // 3, True), (MOST - 1, (MOST - 1) // 9, False)):
            check_told(self, told, does_keep, program, (0,), form_of(modulus, (factor, SIXTY)))

    def test_as_all_rounds_of_boxes_say(self):
        found = {True: 0, False: 0}
        for depth, wide, many in ((1, 30, 60), (2, 17, 12)):
            numbers = Sequence(50 + depth)
            for _ in range(many):
                program = numbers.program(depth, 2, 2)
                lot = numbers.lot(program)
                pairs = pairs_within(program, lot, ((-wide, wide),) * depth)
                for form in some_forms(numbers, program, lot):
                    told = all(number_of(form, one) == number_of(form, other) for one, other in pairs)
                    check_told(self, told, does_keep, program, lot, form)
                    found[told] += 1
        self.assertGreater(min(found.values()), 80)

    def test_wrong_arguments_in_their_order(self):
        for program in PROGRAMS:
            for thing in no_forms(program):
                check_refused(self, BadForm, "value", thing, does_keep, program, (), thing)
            for thing in no_lots(program):
                check_refused(self, BadLot, "value", thing, does_keep, program, thing, None)
        for thing, place in no_programs():
            check_refused(self, BadProgram, "place", place, does_keep, thing, None, None)


class TestFinest(unittest.TestCase):
    def test_it_is_a_finest_dealing(self):
        for program in PROGRAMS + (TRIANGLE, alone(1, 4), alone(2, 4), alone(3, 4)):
            for lot in lots_of(program):
                self.check_finest(program, lot)
        for program, lot in samples(51, 250, 4, 9):
            self.check_finest(program, lot)

    def test_of_references_alike(self):
        for program in ((1, (((4,),),), (((0, (9,), READ),) * 4,) * 4),
                        (2, (((0, 0),) * 3,), (((0, (9, 9, -9), WRITE),),) * 4),
                        (3, (((4, -4, 4),) * 3,), (((0, (1, 1, 1), READ),) * 2,) * 3)):
            for lot in lots_of(program):
                self.check_finest(program, lot)

    def test_of_great_steps(self):
        # Steps of 18 cells each way, also by arrays whose own places are far apart.
        corner = ((4, 3, 0), (0, 4, 3), (3, 0, 4))
        for matrix in (UNIT, corner, ((4, 4, 3), (4, 3, 4), (3, 4, 4)), ((1, 4, 4), (0, 1, 4), (0, 0, 1))):
            references = ((0, (9, 9, 9), READ), (0, (-9, 9, 9), READ), (0, (9, -9, 9), READ), (0, (9, 9, -9), READ))
            far = ((0, (-9, -9, 9), READ), (1, (9, -9, 9), READ), (1, (-9, -9, -8), READ))
            for statements in ((references,), (references[:2], far), (references[1:], far, far[1:])):
                program = (3, (matrix, corner), statements)
                for lot in lots_of(program):
                    self.check_finest(program, lot)

    def test_thirteen_forms(self):
        told = finest(alone(3, 4), ())
        self.assertTrue(is_finest(alone(3, 4), (), told))
        self.assertLessEqual(len(told), 13)

    def check_finest(self, program, lot):
        told = finest(program, lot)
        check_told(self, told, finest, program, lot)
        self.assertIs(told.__class__, tuple)
        self.assertLessEqual(len(told), 13)
        for modulus, terms in told:
            self.assertTrue(modulus == 0 or 2 <= modulus <= MOST)
            self.assertEqual(len(terms), len(program[2]))
        check_told(self, True, is_right, program, lot, told)
        check_told(self, True, is_finest, program, lot, told)
        self.check_hands(program, lot, told)

    def check_hands(self, program, lot, told):
        """ROUNDS near (0, ..) have the same HAND exactly if they have the same HEAD."""
        wide = (0, 4, 2, 1)[program[0]]
        heads, hands = {}, {}
        for one in rounds_within(program, ((-wide, wide),) * program[0])[::3]:
            found = tuple(number_of(form, one) for form in told)
            lead = head(program, lot, one)
            self.assertEqual(heads.setdefault(found, lead), lead)
            self.assertEqual(hands.setdefault(lead, found), found)

    def test_wrong_arguments_in_their_order(self):
        for program in PROGRAMS:
            for thing in no_lots(program):
                check_refused(self, BadLot, "value", thing, finest, program, thing)
        for thing, place in no_programs():
            check_refused(self, BadProgram, "place", place, finest, thing, None)


class TestIsRight(unittest.TestCase):
    def test_each_form_counts(self):
        program = one_loop(((0, 0), (0, 6)), ((1, 0), (1, 8)))
        good = (form_of(6, (1, 0), (5, 1)), form_of(0, (0, 1), (7, 2)), form_of(3, (2, 0), (1, 1)))
        bad = form_of(4, (1, 0), (0, 0))
        check_told(self, True, is_right, program, (0,), good)
        check_told(self, True, is_right, program, (0,), ())
        check_told(self, True, is_right, program, (0,), good[:1] * 13)
        for spot in range(3):
            changed = good[:spot] + (bad,) + good[spot + 1:]
            check_told(self, False, is_right, program, (0,), changed)
            check_told(self, True, is_right, program, (1,), (bad,))
        check_told(self, False, is_right, program, (0,), good[:1] * 12 + (bad,))
        check_told(self, True, is_right, program, (), good + (bad,))
        check_told(self, False, is_right, program, (0, 1), good)

    def test_wrong_arguments_in_their_order(self):
        check_wrong_dealings(self, is_right)


class TestIsFinest(unittest.TestCase):
    def test_without_a_form(self):
        for offset, told in ((0, False), (1, True), (2, False)):
            check_told(self, told, is_finest, one_loop(((0, 0), (0, offset))), (0,), ())
        for many in (1, 2):
            program = (1, (((0,),),), tuple(((0, (offset,), READ),) for offset in range(many)))
            check_told(self, many == 1, is_finest, program, (0,), ())

    def test_steps(self):
        program = one_loop(((0, 0), (0, 6)))
        for dealing, told in (
                ((), False), ((form_of(6, (1, 0)),), True), ((form_of(6, (5, 3)),), True),
                ((form_of(6, (7, 3)),), True),
                ((form_of(6, (2, 0)),), False), ((form_of(2, (1, 0)),), False),
                ((form_of(3, (1, 0)),), False),
                ((form_of(2, (1, 0)), form_of(3, (1, 0))), True),
                ((form_of(2, (1, 0)), form_of(6, (2, 0))), True),
                ((form_of(2, (1, 0)), form_of(6, (3, 0))), False), ((form_of(12, (2, 0)),), True),
                ((form_of(12, (10, 0)),), True), ((form_of(12, (6, 0)),), False),
                ((form_of(12, (1, 0)),), False),
                ((form_of(0, (0, 0)),), False), ((form_of(0, (0, 0)), form_of(6, (1, 0))), True),
                ((form_of(6, (1, 0)), form_of(0, (1, 0))), False), ((form_of(6, (1, 0)),) * 13, True),
                ((form_of(6 * 10 ** 29, (10 ** 29, 5)),), True),
                ((form_of(6 * 10 ** 29, (10 ** 29 * 4, 5)),), False)):
            with self.subTest(dealing=dealing):
                check_told(self, told, is_finest, program, (0,), dealing)

    def test_a_modulus_of_two_and_the_greatest(self):
        program = one_loop(((0, 0), (0, 2)))
        for form, told in ((form_of(2, (1, 1)), True), (form_of(2, (SIXTY, SIXTY)), True), (form_of(2, (2, 1)), False),
                           (form_of(MOST, (MOST // 2, 1)), True), (form_of(MOST, (MOST // 4, 1)), False),
                           (form_of(MOST, (MOST, 1)), False)):
            check_told(self, told, is_finest, program, (0,), (form,))
        for modulus in (2, MOST - 1, MOST):
            check_told(self, False, is_finest, LINE, (0,), (form_of(modulus, (1, 0)),) * 13)
        check_told(self, True, is_finest, LINE, (0,), (form_of(0, (SIXTY, -SIXTY)),))

    def test_groups_apart(self):
        program = alone(1, 2)
        for dealing, told in (
                ((form_of(0, (1, 0), (1, 0)),), False), ((form_of(0, (2, 0), (2, 1)),), True),
                ((form_of(0, (2, 0), (2, 2)),), False), ((form_of(0, (2, 0), (3, 1)),), False),
                ((form_of(0, (4, 0), (6, 1)),), True), ((form_of(0, (4, 0), (6, 2)),), False),
                ((form_of(0, (4, 0), (-6, 3)),), True), ((form_of(0, (0, 0), (1, 1)),), False),
                ((form_of(0, (1, 0), (1, 0)), form_of(0, (0, 0), (0, 1))), True),
                ((form_of(0, (1, 0), (1, 0)), form_of(2, (0, 0), (0, 1))), True),
                ((form_of(0, (1, 0), (1, 0)), form_of(2, (1, 0), (1, 1))), True),
                ((form_of(0, (1, 0), (1, 0)), form_of(2, (1, 0), (0, 1))), False),
                ((form_of(0, (1, 0), (1, SIXTY)), form_of(MOST, (1, 0), (1, 0))), True),
                ((form_of(0, (1, 0), (1, SIXTY)), form_of(MOST, (1, 0), (1, SIXTY)),), False),
                ((form_of(0, (SIXTY, 0), (SIXTY, 1)),), True),
                ((form_of(0, (SIXTY, 0), (SIXTY + 1, 1)),), False)):
            with self.subTest(dealing=dealing):
                check_told(self, told, is_finest, program, (), dealing)

    def test_forms_that_tell_groups_apart_just_together(self):
        # The same NUMBERS by the one are told apart by the other.
        program = alone(2, 2)
        own = (0, (((1, 0), 0), ((1, 0), 0))), (0, (((0, 1), 0), ((0, 1), 0)))
        three, two = (0, (((1, 1), 0), ((1, 1), 2))), (6, (((2, 2), 0), ((2, 2), 3)))
        check_told(self, False, is_finest, program, (), own)
        check_told(self, True, is_finest, program, (), own + (three,))
        check_told(self, True, is_finest, program, (), (two,) + own)
        check_told(self, False, is_finest, program, (), (three, two))
        near = (4, (((1, 2), 0), ((1, 2), 1))), (4, (((2, 1), 0), ((2, 1), 2)))
        check_told(self, False, is_finest, program, (), near)

    def test_forms_that_leave_no_place_at_all(self):
        # By the first two both PLACES are 0 for the same HAND, but then the third tells more.
        program = alone(1, 2)
        dealing = form_of(0, (1, 0), (1, 0)), form_of(0, (1, 0), (2, 0)), form_of(0, (1, 1), (3, 0))
        check_told(self, True, is_finest, program, (), dealing)
        check_told(self, True, is_finest, program, (), dealing[::-1])
        check_told(self, False, is_finest, program, (), dealing[:2])
        check_told(self, False, is_finest, program, (), dealing[1:])
        check_told(self, True, is_finest, program, (), dealing + (form_of(2, (1, 0), (1, 0)),) * 10)
        shifted = dealing[:2] + (form_of(0, (1, 3), (3, 3)),)
        check_told(self, False, is_finest, program, (), shifted)

    def test_one_group_of_several_statements(self):
        program = one_loop(((0, 0), (0, 6)), ((0, 1),), ((1, 0), (0, 3)))
        check_told(self, True, is_finest, program, (0,), (form_of(6, (1, 0), (1, 1), (1, 3)),))
        check_told(self, True, is_finest, program, (0,), (form_of(6, (7, 6), (1, 1), (-5, 9)),))
        check_told(self, False, is_finest, program, (0,), (form_of(6, (1, 0), (1, 1), (1, 4)),))
        check_told(self, False, is_finest, program, (0,), (form_of(3, (1, 0), (1, 1), (1, 3)),))

    def test_as_all_rounds_of_boxes_say(self):
        found = {True: 0, False: 0}
        for depth, wide, many in ((1, 40, 90), (2, 6, 60), (3, 3, 12)):
            numbers = Sequence(60 + depth)
            for _ in range(many):
                program = numbers.program(depth, 2, 2)
                lot = numbers.lot(program)
                dealing = some_dealing(numbers, program, lot)
                check_told(self, True, is_right, program, lot, dealing)
                told = is_finest(program, lot, dealing)
                check_told(self, told, is_finest, program, lot, dealing)
                self.assertEqual(told, tells_tied_apart(program, lot, dealing, wide), (program, lot, dealing))
                found[told] += 1
        self.assertGreater(min(found.values()), 30)

    def test_no_form_of_a_finest_one_can_be_left_out_without_need(self):
        # By a DEALING that has a form for each way apart, each one is needed.
        for program, lot in samples(52, 60, 3, 5):
            group = groups(program, lot)[0]
            if len(group) == len(program[2]):
                free, factors = ways_apart(program, lot, 0)
                dealing = finest(program, lot)
                if len(dealing) == free + len(factors):
                    for spot in range(len(dealing)):
                        less = dealing[:spot] + dealing[spot + 1:]
                        check_told(self, False, is_finest, program, lot, less)

    def test_great_integers(self):
        numbers = Sequence(9)
        program = alone(3, 4)
        dealing = tuple(
            (modulus, tuple((tuple((numbers.under(MOST) - numbers.under(MOST)) * MOST + numbers.under(MOST)
                                   for _ in range(3)), numbers.under(MOST)) for _ in range(4)))
            for modulus in (0, 0, 0, MOST, MOST - 1) + (10 ** 29 + 7,) * 8)
        check_told(self, True, is_finest, program, (), dealing)
        check_told(self, True, is_finest, program, (), dealing[::-1])
        check_told(self, False, is_finest, program, (), dealing[1:])
        alike = tuple((modulus, terms[:2] + terms[1:3]) for modulus, terms in dealing)
        check_told(self, False, is_finest, program, (), alike)

    def test_hands_that_are_shared_far_away(self):
        # The last FORM gives ROUNDS with the same NUMBERS by the others the same one just
        # where ten times the integer of the one loop is this by 10 ** 30.
        program = alone(3, 2)
        own = tuple((0, ((row, 0), (row, SIXTY))) for row in UNIT)
        for by, told in ((0, False), (1, True), (5, True), (10, False), (-10, False), (SIXTY, True),
                         (SIXTY * 10, False)):
            form = (MOST, (((11, 0, 0), 0), ((1, 0, 0), by + 11 * SIXTY)))
            check_told(self, told, is_finest, program, (), own + (form,))
            check_told(self, told, is_finest, program, (), (form,) + own)

    def test_what_is_not_right_is_not_finest(self):
        check_told(self, False, is_finest, PLANE, (0,), finest(PLANE, ()))
        check_told(self, False, is_finest, PLANE, (0, 1), finest(PLANE, (0,)))
        check_told(self, False, is_finest, PLANE, (0,), finest(PLANE, (0, 1)))
        check_told(self, True, is_right, PLANE, (0,), finest(PLANE, (0, 1)))

    def test_wrong_arguments_in_their_order(self):
        check_wrong_dealings(self, is_finest)


class TestInterface(unittest.TestCase):
    def test_names_of_arguments(self):
        check_names(self, forms, {
            "number": ["program", "form", "round_at"],
            "does_keep": ["program", "lot", "form"],
            "hand": ["program", "dealing", "round_at"],
            "finest": ["program", "lot"],
            "is_right": ["program", "lot", "dealing"],
            "is_finest": ["program", "lot", "dealing"],
        })

    def test_by_name(self):
        form = form_of(5, (1, 4))
        self.assertEqual(number(round_at=(0, (3,)), form=form, program=LINE), 2)
        self.assertEqual(hand(round_at=(0, (3,)), dealing=(form,), program=LINE), (2,))
        self.assertTrue(does_keep(form=form, lot=(0,), program=LINE))
        self.assertTrue(is_right(dealing=(form,), lot=(0,), program=LINE))
        self.assertFalse(is_finest(dealing=(form,), lot=(0,), program=LINE))
        self.assertTrue(is_finest(dealing=finest(lot=(0,), program=LINE), lot=(0,), program=LINE))


def check_wrong_dealings(test, call):
    """The call refuses a wrong PROGRAM, then a wrong LOT, then a wrong DEALING."""
    for program in PROGRAMS:
        for thing, place in no_dealings(program):
            check_refused(test, BadDealing, "place", place, call, program, (), thing)
        for thing in no_lots(program):
            check_refused(test, BadLot, "value", thing, call, program, thing, None)
    for thing, place in no_programs():
        check_refused(test, BadProgram, "place", place, call, thing, None, None)


def some_forms(numbers, program, lot):
    """FORMS of a PROGRAM: some that keep the LOT, and some that nearly do."""
    found = list(finest(program, lot))
    found += [scaled(form, numbers.between(-3, 3), numbers.between(-3, 3)) for form in found]
    found += [(numbers.between(2, 6), scaled(form, 1, 0)[1]) for form in found]
    found += [(modulus, some_terms(numbers, terms)) for modulus, terms in found]
    return found


def some_terms(numbers, terms):
    """The TERMS with one integer changed."""
    spot = numbers.under(len(terms))
    row, shift = terms[spot]
    at = numbers.under(len(row) + 1)
    changed = tuple(part + (column == at) for column, part in enumerate(row + (shift,)))
    return terms[:spot] + ((changed[:-1], changed[-1]),) + terms[spot + 1:]


def some_dealing(numbers, program, lot):
    """A right DEALING, which is finest or nearly so."""
    forms_of = list(finest(program, lot))
    if forms_of and numbers.under(2):
        spot = numbers.under(len(forms_of))
        forms_of[spot] = scaled(forms_of[spot], numbers.between(-1, 2), 1)
    if numbers.under(4) == 0:
        forms_of = forms_of[1:]
    if len(forms_of) > 1 and numbers.under(2) == 0 and forms_of[0][0] == forms_of[1][0]:
        # The first two are told by one: a sum of the one and of some times the other.
        (modulus, terms), other = forms_of[0], scaled(forms_of[1], numbers.between(0, 3), 0)[1]
        forms_of[0] = modulus, tuple((tuple(map(sum, zip(row, far))), shift + by)
                                     for (row, shift), (far, by) in zip(terms, other))
        if numbers.under(2):
            del forms_of[1]
    return tuple(forms_of)


def tells_tied_apart(program, lot, dealing, wide):
    """Whether ROUNDS of a box with the same HAND have the same HEAD."""
    heads = {}
    for one in rounds_within(program, ((-wide, wide),) * program[0]):
        told = tuple(number_of(form, one) for form in dealing)
        lead = head(program, lot, one)
        if heads.setdefault(told, lead) != lead:
            return False
    return True


if __name__ == "__main__":
    unittest.main()

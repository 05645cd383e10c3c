"""Points 40 and 41: what is shared and sent in a BOX, even FORMS, and broken pairs."""

import itertools
import unittest

from owncells import sending
from owncells.errors import BadBox, BadDealing, BadForm, BadLot, BadProgram, TooGreat
from owncells.forms import finest
from owncells.sending import broken_pairs, is_even, meeting_pairs, sent, shared
from tests.samples import (
    LINE, PLANE, PROGRAMS, SIXTY, SPACE, TRIANGLE, Sequence, cells_at, check_names,
    check_refused, check_told, form_of, lots_of, no_boxes, no_dealings, no_forms, no_lots,
    no_programs, no_sides, number_of, one_loop, pairs_within, rounds_within, samples)

READ, WRITE = "read", "write"

MOST = 10 ** 30

# Each ROUND writes a cell and reads the next one.
NEXT = one_loop(((0, 0), (0, 1)))

TWICE = one_loop(((0, 0), (0, 2)), ((0, 1), (1, 1)), ((1, 3), (2, 0)))

# All ROUNDS meet by array 0, all of two statements by array 1.
CORNER = (
    1,
    (((0,),), ((0,),)),
    (((0, (0,), READ),), ((0, (0,), READ), (1, (0,), READ)), ((0, (0,), READ), (1, (0,), WRITE))),
)


def hands_at(program, lot, dealing, box):
    """A dict from each CELL that is touched in a BOX to the unlike HANDS that touch it."""
    found = {}
    for one in rounds_within(program, box):
        hand = tuple(number_of(form, one) for form in dealing)
        for cell in cells_at(program, lot, one):
            found.setdefault(cell, set()).add(hand)
    return found


def some_dealing(numbers, program):
    """A DEALING of small integers, which is hardly ever right."""
    return tuple(
        ((0, 2, 3, 5)[numbers.under(4)],
         tuple((tuple(numbers.between(-2, 2) for _ in range(program[0])), numbers.between(-2, 2))
               for _ in program[2]))
        for _ in range(numbers.under(3)))


def even_form(numbers, program):
    """An even FORM, its ROWS written unlike if there is a MODULUS."""
    modulus = (0, 2, 3, 7)[numbers.under(4)]
    row = tuple(numbers.between(-3, 3) for _ in range(program[0]))
    return modulus, tuple((tuple(factor + modulus * numbers.between(-2, 2) for factor in row), numbers.between(-9, 9))
                          for _ in program[2])


def some_box(numbers, program, most):
    spans = []
    for _ in range(program[0]):
        low = numbers.between(-9, 9)
        spans.append((low, low + numbers.under(most)))
    return tuple(spans)


class TestShared(unittest.TestCase):
    def test_ordinary_boxes(self):
        halves = form_of(2, (1, 0))
        for lot, dealing, box, told in (
                ((0,), (halves,), ((0, 3),), (1, 2, 3)), ((0,), (halves,), ((-2, 0),), (-1, 0)),
                ((0,), (halves,), ((5, 5),), ()), ((0,), (form_of(0, (0, 7)),), ((0, 3),), ()),
                ((0,), (), ((0, 3),), ()),
                ((), (halves,), ((0, 3),), ()), ((1, 2), (halves,), ((0, 3),), ()),
                ((0, 1, 2, 3), (halves,), ((0, 1),), (1,)),
                ((0,), (form_of(4, (2, 0)), form_of(3, (0, 1))), ((0, 3),), (1, 2, 3)),
                ((0,), (form_of(2, (2, 0)), form_of(3, (3, 1))), ((0, 3),), ())):
            with self.subTest(lot=lot, dealing=dealing, box=box):
                cells = tuple((0, (spot,)) for spot in told)
                check_told(self, cells, shared, NEXT, lot, dealing, box)
                check_told(self, len(cells), sent, NEXT, lot, dealing, box)

    def test_right_dealings_share_nothing(self):
        for program in PROGRAMS + (TRIANGLE,):
            box = ((-2, 3), (0, 5), (1, 2))[:program[0]]
            for lot in lots_of(program):
                check_told(self, (), shared, program, lot, finest(program, lot), box)
                check_told(self, 0, sent, program, lot, finest(program, lot), box)

    def test_the_order_of_cells(self):
        program = one_loop(((0, 0), (0, 1), (2, -3), (1, 9)), ((2, 0), (3, 3)), ((1, -9), (3, -1), (3, 3)))
        dealing = (form_of(0, (1, 0), (1, 2), (2, 0)),)
        told = hands_at(program, (0, 1, 2, 3), dealing, ((-30, 30),))
        cells = tuple(sorted(cell for cell, hands in told.items() if len(hands) > 1))
        self.assertEqual({array for array, _ in cells}, {0, 1, 2, 3})
        check_told(self, cells, shared, program, (0, 1, 2, 3), dealing, ((-30, 30),))
        check_told(self, tuple(cell for cell in cells if cell[0] == 3), shared, program, (3,), dealing, ((-30, 30),))

    def test_wrong_arguments_in_their_order(self):
        check_wrong_boxes(self, shared)


class TestSent(unittest.TestCase):
    def test_once_less_than_there_are_unlike_hands(self):
        for many in range(1, 8):
            dealing = (form_of(0, (1, 0), (1, 0), (1, 0)),)
            box = ((1, many),)
            check_told(self, many - 1, sent, CORNER, (0,), dealing, box)
            check_told(self, many - 1, sent, CORNER, (1,), dealing, box)
            check_told(self, 2 * many - 2, sent, CORNER, (0, 1), dealing, box)
            check_told(self, () if many == 1 else ((0, (0,)), (1, (0,))), shared, CORNER, (0, 1), dealing, box)
            dealing = (form_of(0, (1, 0), (1, 20), (1, 40)),)
            check_told(self, 3 * many - 1, sent, CORNER, (0,), dealing, box)
            check_told(self, 2 * many - 1, sent, CORNER, (1,), dealing, box)
            check_told(self, 5 * many - 2, sent, CORNER, (0, 1), dealing, box)
            check_told(self, min(many, 3) - 1, sent, CORNER, (1,), (form_of(3, (1, 0), (1, 3), (1, 0)),), box)

    def test_hands_are_tuples_of_numbers(self):
        # Together the two FORMS tell six HANDS.
        dealing = form_of(2, (1, 0), (1, 0), (1, 0)), form_of(3, (1, 0), (1, 0), (1, 0))
        for many, told in ((1, 0), (2, 1), (5, 4), (6, 5), (7, 5), (12, 5)):
            check_told(self, told, sent, CORNER, (0,), dealing, ((0, many - 1),))
            check_told(self, told, sent, CORNER, (0,), dealing + dealing, ((0, many - 1),))
            check_told(self, min(told, 1), sent, CORNER, (0,), dealing[:1], ((0, many - 1),))
            check_told(self, min(told, 2), sent, CORNER, (0,), dealing[1:], ((0, many - 1),))

    def test_alike_statements_and_references(self):
        program = (1, (((1,),),), (((0, (0,), READ),) * 4,) * 2)
        for shift, told in ((0, 0), (1, 5), (2, 0), (SIXTY, SIXTY % 2 * 5)):
            check_told(self, told, sent, program, (0,), (form_of(2, (1, 0), (1, shift)),), ((0, 4),))

    def test_thirteen_forms_and_fourteen(self):
        form = form_of(2, (1, 0))
        check_told(self, 3, sent, NEXT, (0,), (form,) * 13, ((0, 3),))
        for call in (sent, shared):
            check_refused(self, BadDealing, "place", (), call, NEXT, (0,), (form,) * 14, ((0, 3),))

    def test_moduli(self):
        for modulus, told in ((2, 3), (MOST, 3), (0, 3)):
            check_told(self, told, sent, NEXT, (0,), (form_of(modulus, (1, 0)),), ((0, 3),))
            check_told(self, 0, sent, NEXT, (0,), (form_of(modulus, (modulus, 0)),), ((0, 3),))
        for modulus in (1, MOST + 1):
            check_refused(self, BadDealing, "place", (0,), sent, NEXT, (0,), (form_of(modulus, (1, 0)),), ((0, 3),))

    def test_wherever_the_box_begins(self):
        for program in (NEXT, PLANE, TRIANGLE, SPACE):
            lot = tuple(range(len(program[1])))
            dealing = ((5, (((1, 2, 2)[:program[0]], 1),) * len(program[2])),)
            box = ((0, 4), (0, 3), (0, 2))[:program[0]]
            moved = tuple((low + 5 * SIXTY, high + 5 * SIXTY) for low, high in box)
            told = sent(program, lot, dealing, box)
            check_told(self, told, sent, program, lot, dealing, moved)
            self.assertEqual(len(shared(program, lot, dealing, box)), len(shared(program, lot, dealing, moved)))

    def test_as_all_rounds_say(self):
        found = set()
        numbers = Sequence(181)
        for program, lot in samples(81, 300, 3, 4):
            dealing = some_dealing(numbers, program)
            box = some_box(numbers, program, (0, 30, 7, 4)[program[0]])
            told = hands_at(program, lot, dealing, box)
            cells = tuple(sorted(cell for cell, hands in told.items() if len(hands) > 1))
            many = sum(len(hands) - 1 for hands in told.values())
            check_told(self, cells, shared, program, lot, dealing, box)
            check_told(self, many, sent, program, lot, dealing, box)
            found.add(many)
        self.assertGreater(len(found), 30)

    def test_4000_rounds_and_more(self):
        many = (((0, (0,), READ),),) * 4
        dealing = (form_of(2, (1, 0)),)
        for program, box, told in (
                (LINE, ((1, 4000),), 0), (LINE, ((-SIXTY, 3999 - SIXTY),), 0), (NEXT, ((1, 4000),), 3999),
                ((1, LINE[1], many), ((0, 999),), 0),
                ((3, (((1, 1, 1),),), many), ((0, 9), (1, 10), (-5, 4)), 0)):
            if told:
                check_told(self, told, sent, program, (0,), dealing, box)
            else:
                check_told(self, 0, sent, program, (0,), (), box)
                check_told(self, (), shared, program, (0,), (), box)
            longer = box[:-1] + ((box[-1][0], box[-1][1] + 1),)
            for call in (sent, shared):
                check_refused(self, TooGreat, "most", 4000, call, program, (), (), longer)
        for call in (sent, shared):
            check_refused(self, TooGreat, "most", 4000, call, LINE, (0,), (), ((-SIXTY, SIXTY),))
            check_refused(self, BadDealing, "place", (0,), call, LINE, (0,), (None,), ((-SIXTY, SIXTY),))
            check_refused(self, BadLot, "value", (1,), call, LINE, (1,), (), ((-SIXTY, SIXTY),))

    def test_wrong_arguments_in_their_order(self):
        check_wrong_boxes(self, sent)


class TestIsEven(unittest.TestCase):
    def test_ordinary_forms(self):
        for form, told in (
                ((0, (((1, 2), 0), ((1, 2), 5), ((1, 2), -9))), True),
                ((0, (((1, 2), 0), ((1, 2), 5), ((1, 3), 5))), False),
                ((0, (((1, 2), 0), ((2, 2), 0), ((1, 2), 0))), False),
                ((3, (((1, 2), 0), ((1, 2), 5), ((1, 2), -9))), True),
                ((3, (((1, 2), 0), ((-2, 5), 5), ((4, -1), -9))), True),
                ((3, (((1, 2), 0), ((-2, 5), 5), ((4, 0), -9))), False),
                ((3, (((1, 2), 0), ((-1, 5), 5), ((4, 2), -9))), False),
                ((0, (((1, 2), 0), ((-2, 5), 5), ((4, -1), -9))), False),
                ((2, (((0, 1), 0), ((SIXTY - 1, SIXTY), 0), ((-SIXTY - 1, SIXTY), 0))), SIXTY % 2 == 1),
                ((MOST, (((0, 1), 0), ((MOST, 1 - MOST), 0), ((0, 1 + 5 * MOST), 0))), True),
                ((MOST, (((0, 1), 0), ((MOST - 1, 1), 0), ((0, 1), 0))), False)):
            with self.subTest(form=form):
                check_told(self, told, is_even, PLANE, form)

    def test_of_one_statement_each_is_even(self):
        for modulus in (0, 2, MOST):
            check_told(self, True, is_even, LINE, form_of(modulus, (SIXTY, 0)))

    def test_wrong_arguments_in_their_order(self):
        for program in PROGRAMS:
            for thing in no_forms(program):
                check_refused(self, BadForm, "value", thing, is_even, program, thing)
        for thing, place in no_programs():
            check_refused(self, BadProgram, "place", place, is_even, thing, None)


class TestMeetingPairs(unittest.TestCase):
    def test_ordinary_sides(self):
        for program, lot, sides, told in (
                (LINE, (0,), (20,), 0), (NEXT, (0,), (1,), 0), (NEXT, (0,), (2,), 1),
                (NEXT, (0,), (20,), 19), (NEXT, (), (20,), 0),
                (NEXT, (1, 2), (20,), 0), (CORNER, (0,), (1,), 3), (CORNER, (0,), (2,), 15),
                (CORNER, (1,), (2,), 6),
                (CORNER, (0, 1), (2,), 15), (CORNER, (1,), (20,), 780), (PLANE, (0,), (2, 2), 1),
                (PLANE, (0,), (3, 1), 0),
                (PLANE, (1,), (2, 3), 1), (PLANE, (1,), (1, 3), 0), (PLANE, (1,), (20, 20), 19 * 18),
                (PLANE, (2,), (9, 20), 0),
                (PLANE, (2,), (10, 10), 1), (SPACE, (2,), (1, 1, 1), 0), (SPACE, (2,), (2, 1, 1), 1),
                (SPACE, (2,), (2, 2, 2), 28)):
            with self.subTest(lot=lot, sides=sides):
                check_told(self, told, meeting_pairs, program, lot, sides)

    def test_alike_statements_meet_at_one_place(self):
        program = (1, (((1,),),), (((0, (0,), READ),) * 4,) * 4)
        for side in (1, 2, 20):
            check_told(self, 6 * side, meeting_pairs, program, (0,), (side,))
            check_told(self, 0, meeting_pairs, program, (), (side,))

    def test_as_all_rounds_of_boxes_say(self):
        found = set()
        numbers = Sequence(182)
        for program, lot in samples(82, 250, 3, 3):
            box = some_box(numbers, program, (0, 20, 6, 4)[program[0]])
            sides = tuple(high - low + 1 for low, high in box)
            told = len(pairs_within(program, lot, box))
            check_told(self, told, meeting_pairs, program, lot, sides)
            found.add(told)
        self.assertGreater(len(found), 50)

    def test_sides_of_1_and_20(self):
        for program in PROGRAMS:
            check_told(self, 0, meeting_pairs, program, (), (1,) * program[0])
            for side in (0, 21):
                sides = (1,) * (program[0] - 1) + (side,)
                check_refused(self, BadBox, "value", sides, meeting_pairs, program, (), sides)
        check_told(self, 0, meeting_pairs, PLANE, (), (20, 20))

    def test_5000_steps_and_more(self):
        # 5 * 27 * 37 is 4995, and 11 * 13 * 35 is 5005; nothing odd is nearer to 5000.
        check_told(self, 0, meeting_pairs, SPACE, (), (9, 9, 9))
        check_told(self, 9 ** 3 * (9 ** 3 - 1) // 2, meeting_pairs, SPACE, (2,), (9, 9, 9))
        check_told(self, 0, meeting_pairs, SPACE, (), (3, 14, 19))
        for sides in ((6, 7, 18), (20, 8, 5), (20, 20, 20), (20, 20, 3)):
            check_refused(self, TooGreat, "most", 5000, meeting_pairs, SPACE, (), sides)
            check_refused(self, BadLot, "value", (5,), meeting_pairs, SPACE, (5,), sides)
        for sides in itertools.product((3, 7, 12, 17, 20), repeat=3):
            steps = (2 * sides[0] - 1) * (2 * sides[1] - 1) * (2 * sides[2] - 1)
            if steps > 5000:
                check_refused(self, TooGreat, "most", 5000, meeting_pairs, SPACE, (0, 1), sides)
            elif steps > 4000:
                check_told(self, 0, meeting_pairs, SPACE, (), sides)

    def test_wrong_arguments_in_their_order(self):
        for program in PROGRAMS:
            for thing in no_sides(program):
                check_refused(self, BadBox, "value", thing, meeting_pairs, program, (), thing)
            for thing in no_lots(program):
                check_refused(self, BadLot, "value", thing, meeting_pairs, program, thing, None)
        for thing, place in no_programs():
            check_refused(self, BadProgram, "place", place, meeting_pairs, thing, None, None)


class TestBrokenPairs(unittest.TestCase):
    def test_ordinary_forms(self):
        for program, lot, form, sides, told in (
                (NEXT, (0,), form_of(0, (1, 0)), (20,), 19), (NEXT, (0,), form_of(2, (1, 0)), (20,), 19),
                (NEXT, (0,), form_of(0, (0, 1)), (20,), 0), (NEXT, (0,), form_of(2, (2, 1)), (20,), 0),
                (NEXT, (), form_of(0, (1, 0)), (20,), 0),
                (CORNER, (1,), form_of(0, (0, 0), (0, 0), (0, 1)), (3,), 9),
                (CORNER, (1,), form_of(0, (1, 5), (1, 0), (1, 0)), (3,), 12),
                (CORNER, (0,), form_of(2, (1, 0), (-1, 0), (3, 0)), (3,), 18),
                (CORNER, (0,), form_of(3, (1, 0), (-2, 0), (4, 0)), (3,), 27),
                (CORNER, (0,), form_of(MOST, (1, 0), (1 - MOST, 0), (1, MOST)), (3,), 27),
                (CORNER, (0,), form_of(0, (1, 0), (1, 3), (1, 6)), (3,), 36)):
            with self.subTest(lot=lot, form=form):
                check_told(self, told, broken_pairs, program, lot, form, sides)

    def test_as_all_rounds_of_boxes_say(self):
        found = set()
        numbers = Sequence(183)
        for program, lot in samples(83, 300, 3, 3):
            form = even_form(numbers, program)
            box = some_box(numbers, program, (0, 20, 6, 4)[program[0]])
            sides = tuple(high - low + 1 for low, high in box)
            told = sum(number_of(form, one) != number_of(form, other) for one, other in pairs_within(program, lot, box))
            check_told(self, True, is_even, program, form)
            check_told(self, told, broken_pairs, program, lot, form, sides)
            found.add(told)
        self.assertGreater(len(found), 50)

    def test_forms_that_keep_the_lot_break_nothing(self):
        numbers = Sequence(84)
        for _ in range(20):
            program = numbers.program(2, 3, 3)
            lot = numbers.lot(program)
            for form in finest(program, lot):
                if is_even(program, form):
                    check_told(self, 0, broken_pairs, program, lot, form, (7, 9))

    def test_a_form_that_is_not_even_is_refused(self):
        for form in ((0, (((1, 0), 0), ((1, 0), 0), ((1, 1), 0))), (3, (((1, 0), 0), ((4, 0), 0), ((1, 1), 0))),
                     (0, (((1, 0), 0), ((4, 0), 0), ((1, 0), 0))),
                     (MOST, (((1, 0), 0), ((1, 0), 0), ((1, MOST // 2), 0)))):
            for sides in ((2, 2), (20, 20), (0, 0), None):
                check_refused(self, BadForm, "value", form, broken_pairs, PLANE, (), form, sides)
            check_refused(self, BadLot, "value", (4,), broken_pairs, PLANE, (4,), form, None)

    def test_5000_steps_and_more(self):
        form = (0, (((1, 1, 1), 0),) * 2)
        check_told(self, 9 ** 3 * (9 ** 3 - 1) // 2, broken_pairs, SPACE, (2,), (0, (((81, 9, 1), 0),) * 2), (9, 9, 9))
        check_told(self, 0, broken_pairs, SPACE, (), form, (19, 3, 14))
        for sides in ((18, 6, 7), (20, 20, 20)):
            check_refused(self, TooGreat, "most", 5000, broken_pairs, SPACE, (), form, sides)
            uneven = (0, (((1, 1, 1), 0), ((1, 1, 2), 0)))
            check_refused(self, BadForm, "value", uneven, broken_pairs, SPACE, (), uneven, sides)

    def test_wrong_arguments_in_their_order(self):
        for program in PROGRAMS:
            form = (0, (((1,) * program[0], 4),) * len(program[2]))
            for thing in no_sides(program):
                check_refused(self, BadBox, "value", thing, broken_pairs, program, (), form, thing)
            for thing in no_forms(program):
                check_refused(self, BadForm, "value", thing, broken_pairs, program, (), thing, None)
            for thing in no_lots(program):
                check_refused(self, BadLot, "value", thing, broken_pairs, program, thing, None, None)
        for thing, place in no_programs():
            check_refused(self, BadProgram, "place", place, broken_pairs, thing, None, None, None)


class TestInterface(unittest.TestCase):
    def test_names_of_arguments(self):
        check_names(self, sending, {
            "shared": ["program", "lot", "dealing", "box"],
            "sent": ["program", "lot", "dealing", "box"],
            "is_even": ["program", "form"],
            "meeting_pairs": ["program", "lot", "sides"],
            "broken_pairs": ["program", "lot", "form", "sides"],
        })

    def test_by_name(self):
        form = form_of(2, (1, 0))
        self.assertEqual(shared(box=((0, 1),), dealing=(form,), lot=(0,), program=NEXT), ((0, (1,)),))
        self.assertEqual(sent(box=((0, 1),), dealing=(form,), lot=(0,), program=NEXT), 1)
        self.assertTrue(is_even(form=form, program=NEXT))
        self.assertEqual(meeting_pairs(sides=(5,), lot=(0,), program=NEXT), 4)
        self.assertEqual(broken_pairs(sides=(5,), form=form, lot=(0,), program=NEXT), 4)


def check_wrong_boxes(test, call):
    """The call refuses a wrong PROGRAM, then a wrong LOT, a wrong DEALING, and a wrong BOX."""
    for program in PROGRAMS:
        for thing in no_boxes(program):
            check_refused(test, BadBox, "value", thing, call, program, (), (), thing)
        for thing, place in no_dealings(program):
            check_refused(test, BadDealing, "place", place, call, program, (), thing, None)
        for thing in no_lots(program):
            check_refused(test, BadLot, "value", thing, call, program, thing, None, None)
    for thing, place in no_programs():
        check_refused(test, BadProgram, "place", place, call, thing, None, None, None)


if __name__ == "__main__":
    unittest.main()

"""Points 12, 13, 20 and 22: HEADS, tied ROUNDS, and how many hands there are."""

import itertools
import unittest

from owncells import hands
from owncells.errors import BadBox, BadLot, BadProgram, BadRound, TooGreat
from owncells.hands import are_tied, hands_in, head, many_hands
from owncells.lattices import basis, groups, is_step
from tests.samples import (
    LINE, PLANE, PROGRAMS, SIXTY, SPACE, TRIANGLE, Sequence, check_names, check_refused,
    check_told, lots_of, no_boxes, no_lots, no_programs, no_rounds, one_loop, rounds_within,
    samples, tied_within)

READ, WRITE = "read", "write"

UNIT = ((1, 0, 0), (0, 1, 0), (0, 0, 1))

# PROGRAMS with steps of several kinds, and a box that is wide enough for all ties of ROUNDS
# near its middle.
STEPPED = (
    (one_loop(((0, 0), (3, 8)), ((0, 0), (1, 0)), ((1, 0), (2, 9)), ((2, 0), (3, 0))), 80),
    (one_loop(((0, 0), (0, 6)), ((0, 2), (1, 1)), ((1, 4), (1, 1)), ((1, 0), (2, 3))), 80),
    (PLANE, 16),
    (TRIANGLE, 24),
    ((2, (((1, 0), (0, 1)), ((1, 1),)),
      (((0, (0, 0), READ), (0, (2, 1), READ), (0, (0, 3), READ)), ((0, (1, 1), WRITE),),
      ((1, (0,), READ),))), 16),
    ((3, (UNIT, ((1, 1, 1),)),
      (((0, (0, 0, 0), READ), (0, (2, 0, 0), READ)), ((0, (0, 1, 0), READ), (1, (0,), WRITE)))), 6),
)


class TestHead(unittest.TestCase):
    def test_ordinary_rounds(self):
        for program, lot, one, told in (
                (LINE, (), (0, (5,)), (0, (5,))), (LINE, (0,), (0, (-5,)), (0, (-5,))),
                (PLANE, (), (2, (3, 7)), (2, (3, 7))), (PLANE, (0,), (0, (3, 7)), (0, (0, 10))),
                (PLANE, (0,), (1, (3, 7)), (1, (3, 7))), (PLANE, (1,), (1, (0, 0)), (0, (1, 2))),
                (PLANE, (0, 1), (1, (0, 0)), (0, (0, 3))), (PLANE, (0, 1), (2, (5, 6)), (2, (5, 6))),
                (SPACE, (1,), (1, (5, 7, 9)), (1, (0, 2, 0))), (SPACE, (2,), (1, (5, 7, 9)), (1, (0, 0, 0))),
                (TRIANGLE, (0, 1, 2), (0, (2, 4)), (0, (0, 0))),
                (TRIANGLE, (0, 1, 2), (0, (5, 5)), (0, (1, -3))),
                (TRIANGLE, (0, 1), (2, (0, 0)), (0, (0, -1))), (TRIANGLE, (1,), (2, (0, 0)), (1, (0, -1)))):
            with self.subTest(lot=lot, one=one):
                check_told(self, told, head, program, lot, one)

    def test_an_empty_lot_leaves_each_round_alone(self):
        for program in PROGRAMS:
            for one in rounds_within(program, ((-2, 2),) * program[0]):
                check_told(self, one, head, program, (), one)

    def test_integers_below_0(self):
        program = one_loop(((0, 0), (0, 5)))
        for part in range(-12, 13):
            check_told(self, (0, (part % 5,)), head, program, (0,), (0, (part,)))

    def test_places_of_sixty_digits(self):
        check_told(self, (0, (0, 2 * SIXTY)), head, PLANE, (0,), (0, (SIXTY, SIXTY)))
        check_told(self, (0, (0, 3)), head, PLANE, (0, 1), (1, (-SIXTY, SIXTY)))
        check_told(self, (0, (SIXTY % 5,)), head, one_loop(((0, 0), (0, 5))), (0,), (0, (SIXTY,)))
        check_told(self, (0, (-SIXTY % 5,)), head, one_loop(((0, 0), (0, 5))), (0,), (0, (-SIXTY,)))
        check_told(self, (0, (1, -SIXTY)), head, TRIANGLE, (0, 1, 2), (0, (2 * SIXTY + 1, 3 * SIXTY)))

    def test_alike_references_and_statements(self):
        program = (2, (((1, 1),),), (((0, (1,), READ),) * 4,) * 3)
        for statement in range(3):
            check_told(self, (0, (0, 9)), head, program, (0,), (statement, (4, 5)))
            check_told(self, (statement, (4, 5)), head, program, (), (statement, (4, 5)))

    def test_it_is_a_round_as_point_22_says(self):
        for program, lot in samples(31, 150, 4, 9):
            numbers = Sequence(len(program[2]) + 7)
            group_of = {one: group for group in groups(program, lot) for one in group}
            for _ in range(4):
                statement = numbers.under(len(program[2]))
                place = tuple(numbers.between(-50, 50) for _ in range(program[0]))
                lead, at = head(program, lot, (statement, place))
                self.assertEqual(lead, group_of[statement][0])
                for step in basis(program, lot, statement):
                    column = [spot for spot, part in enumerate(step) if part][0]
                    self.assertIn(at[column], range(step[column]))
                    moved = tuple(part + by for part, by in zip(place, step))
                    self.assertEqual(head(program, lot, (statement, moved)), (lead, at))
                self.assertEqual(head(program, lot, (lead, at)), (lead, at))
                if lead == statement:
                    self.assertTrue(is_step(program, lot, lead, tuple(x - y for x, y in zip(place, at))))

    def test_wrong_arguments_in_their_order(self):
        for program in PROGRAMS:
            for thing in no_rounds(program):
                check_refused(self, BadRound, "value", thing, head, program, (), thing)
            for thing in no_lots(program):
                check_refused(self, BadLot, "value", thing, head, program, thing, None)
        for thing, place in no_programs():
            check_refused(self, BadProgram, "place", place, head, thing, None, None)


class TestAreTied(unittest.TestCase):
    def test_ordinary_rounds(self):
        for lot, one, other, told in (
                ((0,), (0, (0, 0)), (0, (4, -4)), True), ((0,), (0, (0, 0)), (0, (4, -3)), False),
                ((0,), (1, (0, 0)), (1, (4, -4)), False), ((0,), (1, (4, -4)), (1, (4, -4)), True),
                ((1,), (0, (1, 2)), (1, (0, 0)), True), ((1,), (1, (0, 0)), (0, (1, 2)), True),
                ((1,), (0, (2, 1)), (1, (0, 0)), False), ((0, 1), (0, (2, 1)), (1, (0, 0)), True),
                ((0, 1), (0, (2, 1)), (1, (-9, 9)), True), ((0, 1), (0, (2, 1)), (2, (2, 1)), False),
                ((), (0, (2, 1)), (1, (2, 1)), False), ((), (2, (2, 1)), (2, (2, 1)), True)):
            with self.subTest(lot=lot, one=one, other=other):
                check_told(self, told, are_tied, PLANE, lot, one, other)
                check_told(self, told, are_tied, PLANE, lot, other, one)

    def test_statements_without_arrays_of_the_lot(self):
        check_told(self, True, are_tied, PLANE, (0,), (2, (1, 1)), (2, (1, 1)))
        check_told(self, False, are_tied, PLANE, (0,), (2, (1, 1)), (2, (0, 0)))

    def test_far_apart(self):
        program = one_loop(((0, 0), (0, 7)))
        for far, told in ((7 * SIXTY, True), (7 * SIXTY + 1, False)):
            check_told(self, told, are_tied, program, (0,), (0, (-far,)), (0, (far * 3 - 2 * (far % 7),)))
            check_told(self, told, are_tied, program, (0,), (0, (0,)), (0, (far,)))

    def test_ties_of_a_box_are_found(self):
        for program, wide in STEPPED:
            for lot in lots_of(program):
                self.check_box(program, lot, wide, True)

    def test_ties_of_boxes_of_other_programs(self):
        for depth, wide, many in ((1, 40, 40), (2, 8, 30), (3, 3, 15)):
            numbers = Sequence(depth + 40)
            for _ in range(many):
                program = numbers.program(depth, numbers.between(1, 4), numbers.between(0, 4))
                self.check_box(program, numbers.lot(program), wide, False)

    def check_box(self, program, lot, wide, is_whole):
        """Ties in the box hold; those between ROUNDS near its middle are all that hold."""
        depth = program[0]
        leads = tied_within(program, lot, ((-wide, wide),) * depth)
        heads = {one: head(program, lot, one) for one in rounds_within(program, ((-2, 2),) * depth)}
        for one, other in itertools.combinations(list(heads)[::depth * 2 - 1], 2):
            if leads[one] == leads[other]:
                self.assertEqual(heads[one], heads[other])
            elif is_whole:
                self.assertNotEqual(heads[one], heads[other])
        one, other = list(heads)[0], list(heads)[-1]
        self.assertEqual(are_tied(program, lot, one, other), heads[one] == heads[other])

    def test_wrong_arguments_in_their_order(self):
        for program in PROGRAMS:
            good = (0, (0,) * program[0])
            for thing in no_rounds(program):
                check_refused(self, BadRound, "value", thing, are_tied, program, (), good, thing)
                check_refused(self, BadRound, "value", thing, are_tied, program, (), thing, good)
                check_refused(self, BadRound, "value", thing, are_tied, program, (), thing, None)
            for thing in no_lots(program):
                check_refused(self, BadLot, "value", thing, are_tied, program, thing, None, None)
        for thing, place in no_programs():
            check_refused(self, BadProgram, "place", place, are_tied, thing, None, None, None)


class TestManyHands(unittest.TestCase):
    def test_endlessly_many(self):
        for program in PROGRAMS + (TRIANGLE,):
            check_told(self, None, many_hands, program, ())
        check_told(self, None, many_hands, PLANE, (0, 1, 2))
        check_told(self, None, many_hands, SPACE, (2,))
        check_told(self, None, many_hands, TRIANGLE, (0, 1, 2))

    def test_of_one_group(self):
        for program, told in (
                (one_loop(((0, 0), (0, 1))), 1), (one_loop(((0, 0), (0, 3))), 3),
                (one_loop(((0, 9), (0, -9))), 18), (one_loop(((0, 0), (0, 4), (0, 6))), 2),
                ((1, (((0,),),), (((0, (0,), READ),),)), 1), ((2, (((0, 0),),), (((0, (0,), READ),),)), 1),
                ((3, (((0, 0, 0),),), (((0, (0,), READ),),)), 1)):
            check_told(self, told, many_hands, program, (0,))

    def test_in_three_loops(self):
        for offsets, told in ((((4, 0, 0), (0, 6, 0), (0, 0, 9)), 216), (((1, 1, 0), (0, 1, 1), (1, 0, 1)), 2),
                              (((9, 9, 0), (0, 9, 9), (9, 0, 9)), 1458),
                              (((1, 2, 3), (4, 5, 6), (7, 8, 9)), None)):
            references = ((0, (0, 0, 0), READ),) + tuple((0, offset, READ) for offset in offsets)
            check_told(self, told, many_hands, (3, (UNIT,), (references,)), (0,))

    def test_those_of_all_groups_are_added(self):
        program = one_loop(((0, 0), (0, 3)), ((1, 0), (1, 8)), ((2, 0), (2, 6), (0, 1)))
        check_told(self, None, many_hands, program, (0,))
        check_told(self, None, many_hands, program, (1,))
        check_told(self, 7, many_hands, program, (0, 1))
        check_told(self, 5, many_hands, program, (0, 1, 2))
        program = one_loop(((0, 0), (0, 3)), ((1, 0), (1, 8)), ((1, 1), (1, 5)))
        check_told(self, 9, many_hands, program, (0, 1))

    def test_alike_statements_without_the_lot_are_apart(self):
        program = (1, (((0,),), ((0,),)), (((0, (0,), READ),), ((0, (1,), READ),), ((1, (0,), READ),)))
        check_told(self, 2, many_hands, (1, program[1], program[2][:2]), (0,))
        check_told(self, None, many_hands, program, (0,))
        check_told(self, 3, many_hands, program, (0, 1))

    def test_as_many_as_there_are_in_a_box(self):
        found = set()
        for program, lot in samples(33, 600, 4, 6):
            many = many_hands(program, lot)
            found.add(many)
            if many is not None and many <= 40 and program[0] < 3:
                wide = 25 if program[0] == 2 else 400
                check_told(self, many, hands_in, program, lot, ((-2, wide),) * program[0])
        self.assertIn(None, found)
        self.assertGreater(len(found), 5)

    def test_wrong_arguments_in_their_order(self):
        for program in PROGRAMS:
            for thing in no_lots(program):
                check_refused(self, BadLot, "value", thing, many_hands, program, thing)
        for thing, place in no_programs():
            check_refused(self, BadProgram, "place", place, many_hands, thing, None)


class TestHandsIn(unittest.TestCase):
    def test_ordinary_boxes(self):
        for program, lot, box, told in (
                (LINE, (), ((3, 3),), 1), (LINE, (0,), ((-4, 5),), 10), (PLANE, (), ((0, 3), (0, 4)), 60),
                (PLANE, (0,), ((0, 3), (0, 4)), 48), (PLANE, (0, 1), ((0, 3), (0, 4)), 31),
                (PLANE, (0, 1, 2), ((0, 0), (0, 0)), 2), (PLANE, (0, 1), ((0, 0), (0, 0)), 3),
                (SPACE, (2,), ((0, 1), (0, 1), (0, 1)), 9), (SPACE, (0, 1, 2), ((5, 5), (5, 5), (5, 5)), 2),
                (TRIANGLE, (0, 1, 2), ((0, 0), (-7, 7)), 16)):
            with self.subTest(lot=lot, box=box):
                check_told(self, told, hands_in, program, lot, box)

    def test_hands_that_are_tied_outside_of_the_box_are_one(self):
        check_told(self, 3, hands_in, one_loop(((0, 0), (0, 9), (0, -6))), (0,), ((0, 4),))
        check_told(self, 1, hands_in, (2, (((4, -3),),), (((0, (0,), READ),),)), (0,), ((0, 0), (0, 0)))
        check_told(self, 23, hands_in, (2, (((4, -3),),), (((0, (0,), READ),),)), (0,), ((0, 4), (0, 4)))

    def test_as_all_rounds_say(self):
        for program, wide in STEPPED:
            for lot in lots_of(program):
                leads = tied_within(program, lot, ((-wide, wide),) * program[0])
                for box in (((-2, 2), (0, 3), (-1, 1)), ((0, 0), (-1, 2), (2, 2)), ((-1, 1), (1, 1), (-2, 1))):
                    box = box[:program[0]]
                    told = len({leads[one] for one in rounds_within(program, box)})
                    check_told(self, told, hands_in, program, lot, box)

    def test_as_the_heads_of_all_rounds_say(self):
        # Boxes that are long by one loop or another, with hands of several statements.
        numbers = Sequence(35)
        found = set()
        for program, lot in samples(36, 250, 3, 6):
            sides = [numbers.between(1, (0, 30, 8, 5)[program[0]]) for _ in range(program[0])]
            lows = [numbers.between(-20, 20) for _ in sides]
            box = tuple((low, low + side - 1) for low, side in zip(lows, sides))
            told = len({head(program, lot, one) for one in rounds_within(program, box)})
            check_told(self, told, hands_in, program, lot, box)
            found.add((told, len(groups(program, lot)), sides.index(max(sides))))
        self.assertGreater(len(found), 100)

    def test_spans_that_lie_beside_one_another_or_apart(self):
        # The second statement has the hands of the first one 9 further on, or 18.
        for offsets, box, told in (
                ((0, 9), ((0, 3),), 8), ((0, 9), ((0, 8),), 18), ((0, 9), ((0, 9),), 19), ((9, -9), ((0, 17),), 36),
                ((9, -9), ((0, 30),), 49), ((-9, 9), ((0, 0),), 2), ((5, 5), ((-3, 7),), 11)):
            check_told(self, told, hands_in, one_loop(((0, offsets[0]),), ((0, offsets[1]),)), (0,), box)
        # The same by remainders: array 1 makes steps of ten, so there are ten hands.
        for offset, box, told in ((7, ((0, 2),), 6), (7, ((2, 4),), 6), (7, ((8, 10),), 6), (7, ((0, 5),), 9),
                                  (7, ((0, 6),), 10), (1, ((-4, 0),), 6), (0, ((4, 12),), 9), (-5, ((0, 9),), 10)):
            first = ((0, (0,), READ), (1, (5,), READ), (1, (-5,), READ))
            program = (1, (((1,),), ((1,),)), (first, ((0, (offset,), READ),)))
            check_told(self, told, hands_in, program, (0, 1), box)

    def test_wherever_the_box_begins(self):
        for program, lot in samples(34, 80, 4, 9):
            box = ((0, 2), (0, 1), (0, 2))[:program[0]]
            told = hands_in(program, lot, box)
            for far in (-SIXTY, SIXTY, 13):
                moved = tuple((low + far, high + far) for low, high in box)
                check_told(self, told, hands_in, program, lot, moved)

    def test_4000_rounds_and_more(self):
        many = (((0, (0,), READ),),) * 4
        for program, box, told in (
                (LINE, ((1, 4000),), 4000), (LINE, ((-SIXTY, 3999 - SIXTY),), 4000),
                ((1, LINE[1], many), ((0, 999),), 4000), ((2, (((1, 1),),), many), ((0, 9), (1, 100)), 4000),
                ((3, (((1, 1, 1),),), many), ((0, 9), (1, 10), (-5, 4)), 4000)):
            check_told(self, told, hands_in, program, (), box)
            longer = box[:-1] + ((box[-1][0] - 1, box[-1][1]),)
            check_refused(self, TooGreat, "most", 4000, hands_in, program, (), longer)
        check_refused(self, TooGreat, "most", 4000, hands_in, LINE, (0,), ((0, 4000),))
        check_refused(self, TooGreat, "most", 4000, hands_in, LINE, (0,), ((-SIXTY, SIXTY),))
        check_refused(self, TooGreat, "most", 4000, hands_in, PLANE, (0,), ((0, 0), (-SIXTY, SIXTY)))

    def test_wrong_arguments_in_their_order(self):
        for program in PROGRAMS:
            for thing in no_boxes(program):
                check_refused(self, BadBox, "value", thing, hands_in, program, (), thing)
            for thing in no_lots(program):
                check_refused(self, BadLot, "value", thing, hands_in, program, thing, None)
        box = ((0, SIXTY), (1, 0))
        check_refused(self, BadBox, "value", box, hands_in, PLANE, (), box)
        check_refused(self, BadLot, "value", (3,), hands_in, PLANE, (3,), ((0, SIXTY), (0, 1)))
        for thing, place in no_programs():
            check_refused(self, BadProgram, "place", place, hands_in, thing, None, None)


class TestInterface(unittest.TestCase):
    def test_names_of_arguments(self):
        check_names(self, hands, {
            "head": ["program", "lot", "round_at"],
            "are_tied": ["program", "lot", "one", "other"],
            "many_hands": ["program", "lot"],
            "hands_in": ["program", "lot", "box"],
        })

    def test_by_name(self):
        self.assertEqual(head(round_at=(0, (3, 7)), lot=(0,), program=PLANE), (0, (0, 10)))
        self.assertTrue(are_tied(other=(1, (0, 0)), one=(0, (1, 2)), lot=(1,), program=PLANE))
        self.assertEqual(many_hands(lot=(0,), program=one_loop(((0, 0), (0, 3)))), 3)
        self.assertEqual(hands_in(box=((0, 3),), lot=(), program=LINE), 4)


if __name__ == "__main__":
    unittest.main()

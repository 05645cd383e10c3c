"""Point 35: PAPERS on whether two ROUNDS are tied, and which of them hold."""

import itertools
import unittest

from owncells import papers
from owncells.errors import BadLot, BadPaper, BadProgram, BadRound
from owncells.forms import does_keep, number
from owncells.hands import are_tied
from owncells.papers import check, paper
from tests.samples import (
    LINE, NO_LISTS, PLANE, PROGRAMS, SIXTY, SPACE, TRIANGLE, Sequence, cells_at, check_names,
    check_refused, check_told, in_each, lots_of, nested, no_forms, no_lots, no_programs,
    no_rounds, one_loop, pairs_within, rounds_within, samples)

READ = "read"

# Steps of 5 by one ring, of 7 by another; both are needed for each other step.
FIVE_AND_SEVEN = one_loop(((0, 0), (0, 5), (1, -5), (1, 9)))

# From statement 0 to 1 by steps of 1, on to 2 by steps of 3; 2 has rings with steps of 4.
ROW = one_loop(((0, 1),), ((0, 0), (1, 6)), ((1, 0), (2, -3), (2, 9)))


def one_round(statement, *place):
    return statement, place


def chain_of(*pairs):
    """A row of ROUNDS of one loop, each told by a statement and an integer."""
    return tuple((statement, (part,)) for statement, part in pairs)


def leads_on(program, lot, rounds):
    """Whether each next ROUND meets the one ahead."""
    return all(cells_at(program, lot, one) & cells_at(program, lot, other)
               for one, other in zip(rounds, rounds[1:]))


class TestPaper(unittest.TestCase):
    def check_paper(self, program, lot, one, other):
        """The PAPER holds, by the words of point 35."""
        told = paper(program, lot, one, other)
        check_told(self, told, paper, program, lot, one, other)
        check_told(self, told[0], check, program, lot, one, other, told)
        self.assertEqual(told[0], ("apart", "tied")[are_tied(program, lot, one, other)])
        if told[0] == "apart":
            self.check_apart(program, lot, one, other, told)
        else:
            self.check_tied(program, lot, one, other, told)
        return told

    def check_apart(self, program, lot, one, other, told):
        _, form = told
        self.assertTrue(does_keep(program, lot, form))
        self.assertNotEqual(number(program, form, one), number(program, form, other))

    def check_tied(self, program, lot, one, other, told):
        _, chain, rings = told
        zero = (one[0], (0,) * program[0])
        self.assertEqual(chain[0], zero)
        self.assertEqual(chain[-1][0], other[0])
        self.assertTrue(leads_on(program, lot, chain))
        place = tuple(map(sum, zip(one[1], chain[-1][1])))
        self.assertIs(rings.__class__, tuple)
        for ring, times in rings:
            self.assertGreaterEqual(len(ring), 2)
            self.assertEqual(ring[0], zero)
            self.assertEqual(ring[-1][0], one[0])
            self.assertTrue(leads_on(program, lot, ring))
            place = tuple(part + times * by for part, by in zip(place, ring[-1][1]))
        self.assertEqual(place, other[1])

    def test_ordinary_rounds(self):
        for lot, one, other in (
                ((0,), (0, (0, 0)), (0, (4, -4))), ((0,), (0, (0, 0)), (0, (4, -3))),
                ((1,), (0, (1, 2)), (1, (0, 0))),
                ((1,), (1, (0, 0)), (0, (1, 2))), ((0, 1), (0, (2, 1)), (1, (0, 0))),
                ((0, 1), (1, (-9, 9)), (0, (2, 1))),
                ((0, 1), (0, (2, 1)), (2, (2, 1))), ((0, 1, 2), (2, (5, 5)), (0, (3, -3))),
                ((0, 1, 2), (0, (0, 0)), (2, (5, 5)))):
            self.check_paper(PLANE, lot, one, other)

    def test_an_empty_lot(self):
        for program in PROGRAMS:
            zero, units = (0,) * program[0], (1,) * program[0]
            told = self.check_paper(program, (), (0, units), (0, units))
            self.assertEqual(told, ("tied", ((0, zero),), ()))
            self.assertEqual(self.check_paper(program, (), (0, units), (0, zero))[0], "apart")
            for statement in range(1, len(program[2])):
                self.assertEqual(self.check_paper(program, (), (0, units), (statement, units))[0], "apart")

    def test_a_round_with_itself(self):
        for program, lot in samples(71, 60, 4, 9):
            for statement in range(len(program[2])):
                for far in (0, 3, -SIXTY):
                    one = (statement, (far,) * program[0])
                    self.assertEqual(self.check_paper(program, lot, one, one)[0], "tied")

    def test_rows_of_statements(self):
        for one, other in itertools.product(rounds_within(ROW, ((-2, 1),)), rounds_within(ROW, ((-1, 3),))):
            for lot in lots_of(ROW)[::3] + [(0, 1, 2)]:
                self.check_paper(ROW, lot, one, other)

    def test_rings_that_are_needed_together(self):
        for part in range(-12, 13):
            told = self.check_paper(FIVE_AND_SEVEN, (0, 1), one_round(0, 3), one_round(0, 3 + part))
            self.assertEqual(told[0], "tied")
            for lot, step in (((0,), 5), ((1,), 7)):
                told = self.check_paper(FIVE_AND_SEVEN, lot, one_round(0, 3), one_round(0, 3 + part))
                self.assertEqual(told[0] == "tied", part % step == 0)

    def test_far_apart(self):
        for program in (PLANE, TRIANGLE, SPACE, FIVE_AND_SEVEN, ROW):
            lot = tuple(range(len(program[1])))
            for statement in range(len(program[2])):
                for by in (0, 1, 2, 4):
                    one = (0, (SIXTY,) * program[0])
                    other = (statement, tuple(-SIXTY + by * at for at in range(program[0])))
                    self.check_paper(program, lot, one, other)
                    self.check_paper(program, lot, other, one)
        told = self.check_paper(PLANE, (0,), (0, (SIXTY, -SIXTY)), (0, (-SIXTY, SIXTY)))
        self.assertEqual(told[0], "tied")
        told = self.check_paper(PLANE, (0,), (0, (SIXTY, -SIXTY)), (0, (-SIXTY, SIXTY + 1)))
        self.assertEqual(told[0], "apart")

    def test_other_programs(self):
        words = []
        for program, lot in samples(72, 250, 4, 9):
            numbers = Sequence(len(words))
            for _ in range(3):
                one, other = [(numbers.under(len(program[2])), tuple(numbers.between(-9, 9) for _ in range(program[0])))
                              for _ in range(2)]
                words.append(self.check_paper(program, lot, one, other)[0])
                moved = tuple(part + by for part, by in zip(one[1], (SIXTY, -2 * SIXTY, 5)))
                words.append(self.check_paper(program, lot, one, (one[0], moved))[0])
        self.assertGreater(min(words.count("tied"), words.count("apart")), 100)

    def test_all_pairs_that_meet_in_a_box(self):
        for program, wide in ((PLANE, 3), (TRIANGLE, 6), (ROW, 20), (SPACE, 1)):
            lot = tuple(range(len(program[1])))
            pairs = sorted(pairs_within(program, lot, ((-wide, wide),) * program[0]))
            for one, other in pairs[::len(pairs) // 25 + 1]:
                self.assertEqual(self.check_paper(program, lot, one, other)[0], "tied")
                self.assertEqual(self.check_paper(program, lot, other, one)[0], "tied")

    def test_wrong_arguments_in_their_order(self):
        check_wrong_rounds(self, paper)


class TestCheckTied(unittest.TestCase):
    def check_holds(self, program, lot, one, other, chain, rings):
        check_told(self, "tied", check, program, lot, one, other, ("tied", chain, rings))

    def check_fails(self, program, lot, one, other, chain, rings):
        check_refused(self, BadPaper, "word", "tied", check, program, lot, one, other, ("tied", chain, rings))

    def test_other_papers_than_those_that_are_told(self):
        one, other = one_round(0, 10), one_round(0, 20)
        start, ring = chain_of((0, 0)), chain_of((0, 0), (0, 5))
        for chain, rings in (
                (start, ((ring, 2),)), (start, ((ring, 1), (ring, 1))), (start, ((ring, 7), (ring, -5))),
                (start, ((ring, 2), (ring, 0))), (start, ((chain_of((0, 0), (0, 5), (0, 10)), 1),)),
                (start, ((chain_of((0, 0), (0, -5)), -2),)),
                (start, ((chain_of((0, 0), (0, 5), (0, 0)), 9), (ring, 2))),
                (start, ((chain_of((0, 0), (0, 0)), SIXTY), (ring, 2))),
                (chain_of((0, 0), (0, 5), (0, 10)), ()), (chain_of((0, 0), (0, 5)), ((ring, 1),)),
                (chain_of((0, 0), (0, 5), (0, 10), (0, 15)), ((ring, -1),)),
                (chain_of((0, 0), (0, -5)), ((ring, 3),)),
                (chain_of((0, 0), (0, 0), (0, 5), (0, 5)), ((ring, 1),)),
                (start, ((chain_of((0, 0), (0, 7)), 5), (ring, -5))),
                (chain_of((0, 0), (0, 7), (0, 2), (0, -3)),
                ((chain_of((0, 0), (0, 7), (0, 12)), 1), (ring, 1), (chain_of((0, 0), (0, -7), (0, -2)), 2))),
                (start, ((ring, SIXTY + 2), (ring, -SIXTY)))):
            with self.subTest(chain=chain, rings=rings):
                together = 10 + chain[-1][1][0] + sum(way[-1][1][0] * times for way, times in rings)
                if together == 20:
                    self.check_holds(FIVE_AND_SEVEN, (0, 1), one, other, chain, rings)
                else:
                    self.check_fails(FIVE_AND_SEVEN, (0, 1), one, other, chain, rings)
                    self.check_holds(FIVE_AND_SEVEN, (0, 1), one, one_round(0, together), chain, rings)

    def test_chains_by_several_statements(self):
        one, other = one_round(0, 4), one_round(2, 8)
        chain = chain_of((0, 0), (1, 1), (2, 4))
        self.check_holds(ROW, (0, 1), one, other, chain, ())
        self.check_fails(ROW, (0,), one, other, chain, ())
        self.check_fails(ROW, (0, 1), other, one, chain, ())
        self.check_holds(ROW, (0, 1), other, one, chain_of((2, 0), (1, -3), (0, -4)), ())
        self.check_holds(ROW, (0, 1), one, other, chain_of((0, 0), (1, 1), (0, 0), (1, 1), (1, 1), (2, 4), (2, 4)), ())
        self.check_fails(ROW, (0, 1), one, other, chain_of((0, 0), (1, 1), (2, 5)), ())
        self.check_fails(ROW, (0, 1), one, other, chain_of((0, 0), (2, 4)), ())
        self.check_fails(ROW, (0, 1), one, other, chain_of((0, 0), (1, 1)), ())
        self.check_fails(ROW, (0, 1), one, other, chain_of((0, 4), (1, 5), (2, 8)), ())
        self.check_fails(ROW, (0, 1), one, other, chain_of((1, 1), (2, 4)), ())
        self.check_fails(ROW, (0, 1), one, other, chain_of((2, 4)), ())
        self.check_fails(ROW, (0, 1), one, other, (), ())

    def test_where_a_chain_and_a_ring_end(self):
        # Each PLACE is as it has to be, but not the statement that is led to.
        chain = chain_of((0, 0), (1, 1), (2, 4))
        for end in (1, 2, 3):
            for statement in range(3):
                other = one_round(statement, 4 + chain[end - 1][1][0])
                if statement == chain[end - 1][0]:
                    self.check_holds(ROW, (0, 1), one_round(0, 4), other, chain[:end], ())
                else:
                    self.check_fails(ROW, (0, 1), one_round(0, 4), other, chain[:end], ())
        for end in (2, 3):
            other = one_round(0, 4 + chain[end - 1][1][0])
            self.check_fails(ROW, (0, 1, 2), one_round(0, 4), other, chain[:1], ((chain[:end], 1),))

    def test_rings_by_several_statements(self):
        start = chain_of((0, 0))
        ring = chain_of((0, 0), (1, 1), (2, 4), (2, 8), (1, 5), (0, 4))
        for times in (1, -1, 3, -SIXTY):
            one, other = one_round(0, 5), one_round(0, 5 + 4 * times)
            self.check_holds(ROW, (0, 1, 2), one, other, start, ((ring, times),))
            self.check_fails(ROW, (0, 1), one, other, start, ((ring, times),))
            self.check_fails(ROW, (0, 1, 2), one, other, start, ((ring, times + 1),))
            self.check_fails(ROW, (0, 1, 2), one, other, start, ((ring[:-1], times),))
            self.check_fails(ROW, (0, 1, 2), one, other, start, ((ring[2:4], times),))
            self.check_fails(ROW, (0, 1, 2), one, other, start, ((ring[:3] + ring[4:], times),))
            self.check_fails(ROW, (0, 1, 2), one, other, start, ((chain_of((0, 1), (0, 5)), times),))
            moved = tuple((statement, (at[0] + 1,)) for statement, at in ring)
            self.check_fails(ROW, (0, 1, 2), one, other, start, ((moved, times),))

    def test_a_chain_of_one_round(self):
        for program in PROGRAMS:
            zero, one = (0, (0,) * program[0]), (0, (3,) * program[0])
            for lot in lots_of(program):
                self.check_holds(program, lot, one, one, (zero,), ())
                self.check_fails(program, lot, one, one, (one,), ())
                self.check_fails(program, lot, one, zero, (zero,), ())
                self.check_fails(program, lot, one, one, (), ())

    def test_a_ring_has_two_rounds_or_more(self):
        start = chain_of((0, 0))
        for ring in ((), start):
            self.check_fails(LINE, (0,), (0, (1,)), (0, (1,)), start, ((ring, 1),))
            self.check_fails(LINE, (0,), (0, (1,)), (0, (1,)), start, ((ring, 0),))
        self.check_holds(LINE, (0,), (0, (1,)), (0, (1,)), start, ((start * 2, 1),))
        self.check_holds(LINE, (0,), (0, (1,)), (0, (1,)), start * 7, ((start * 3, 0),))

    def test_a_round_without_arrays_of_the_lot_does_not_meet_itself(self):
        one = (2, (1, 1))
        start = ((2, (0, 0)),)
        self.check_holds(PLANE, (0,), one, one, start, ())
        self.check_fails(PLANE, (0,), one, one, start * 2, ())
        self.check_fails(PLANE, (0,), one, one, start, ((start * 2, 0),))
        self.check_holds(PLANE, (2,), one, one, start * 2, ((start * 2, 0),))

    def test_long_chains(self):
        chain = tuple((0, (5 * at,)) for at in range(1500))
        self.check_holds(FIVE_AND_SEVEN, (0,), one_round(0, 1), one_round(0, 7496), chain, ())
        self.check_fails(FIVE_AND_SEVEN, (0,), one_round(0, 1), one_round(0, 7496), chain[:700] + chain[701:], ())
        ring = chain_of((0, 0), (0, 5))
        self.check_holds(FIVE_AND_SEVEN, (0,), one_round(0, 1), one_round(0, 5001), ring[:1], ((ring, 1),) * 1000)

    def test_values_that_are_no_chain(self):
        one = (0, (3, 4))
        start = ((0, (0, 0)),)
        for thing in NO_LISTS + (list(start), nested(40), {start[0]: 1}, (0, 0), ("tied",)) + in_each(
                start * 3, no_rounds(PLANE)):
            self.check_fails(PLANE, (0,), one, one, thing, ())
        self.check_holds(PLANE, (0,), one, one, start * 3, ())
        # True and False are no integers, though they are equal to 1 and 0.
        self.check_fails(LINE, (0,), (0, (1,)), (0, (1,)), ((False, (0,)),), ())
        self.check_fails(LINE, (0,), (0, (1,)), (0, (1,)), ((0, (False,)),), ())

    def test_values_that_are_no_rings(self):
        one = (0, (3, 4))
        start = ((0, (0, 0)),)
        good = (start * 2, 1)
        for thing in NO_LISTS + (list((good,)), good, nested(40), {good: 1}) + in_each((good, good), NO_LISTS + (
                (), (start * 2,), good + (1,), list(good), (1, start * 2), (start * 2, True),
                (start * 2, False),
                (start * 2, None), (start * 2, "1"), (start * 2, (1,)), (list(start * 2), 1), nested(40))):
            self.check_fails(PLANE, (0,), one, one, start, thing)
        for ring in NO_LISTS + in_each(start * 3, no_rounds(PLANE)):
            self.check_fails(PLANE, (0,), one, one, start, ((ring, 0),))
            self.check_fails(PLANE, (0,), one, one, start, (good, (ring, 1)))
        self.check_holds(PLANE, (0,), one, one, start, (good, good))


class TestCheckApart(unittest.TestCase):
    def check_fails(self, program, lot, one, other, form):
        check_refused(self, BadPaper, "word", "apart", check, program, lot, one, other, ("apart", form))

    def test_ordinary_forms(self):
        one = one_round(0, 1)
        for modulus, factor, other, told in (
                (5, 1, 3, True), (5, 1, 6, False), (5, 3, 2, True), (5, 5, 2, False), (0, 1, 2, False),
                (0, 0, 2, False),
                (10, 2, 2, True), (10, 2, 6, False), (10, 1, 2, False), (25, 5, 3, True),
                (10 ** 30, 2 * 10 ** 29, 2, True),
                (10 ** 30, 10 ** 30, 2, False), (5, 1, 1 + SIXTY, SIXTY % 5 != 0),
                (5, 1, 1 + 5 * SIXTY, False)):
            form = (modulus, (((factor,), 7),))
            with self.subTest(form=form, other=other):
                if told:
                    check_told(self, "apart", check, FIVE_AND_SEVEN, (0,), one, one_round(0, other), ("apart", form))
                else:
                    self.check_fails(FIVE_AND_SEVEN, (0,), one, one_round(0, other), form)
                self.check_fails(FIVE_AND_SEVEN, (0, 1), one, one_round(0, other), form)

    def test_statements_apart(self):
        form = (0, (((0, 0), 1), ((0, 0), 1), ((0, 0), 2)))
        for lot in ((), (0,), (1,), (0, 1)):
            check_told(self, "apart", check, PLANE, lot, (0, (3, 3)), (2, (3, 3)), ("apart", form))
            check_told(self, "apart", check, PLANE, lot, (2, (3, 3)), (1, (0, 9)), ("apart", form))
            self.check_fails(PLANE, lot, (0, (3, 3)), (1, (3, 3)), form)
        self.check_fails(PLANE, (2,), (0, (3, 3)), (2, (3, 3)), form)

    def test_tied_rounds_are_never_shown_apart(self):
        for modulus in (0, 2, 5):
            for factor in range(4):
                self.check_fails(LINE, (0,), (0, (4,)), (0, (4,)), (modulus, (((factor,), 0),)))

    def test_values_that_are_no_form(self):
        for program in PROGRAMS:
            one, other = [(0, (part,) * program[0]) for part in (0, 1)]
            for thing in no_forms(program):
                self.check_fails(program, (), one, other, thing)


class TestCheckForm(unittest.TestCase):
    def test_values_that_are_no_paper(self):
        start = chain_of((0, 0))
        form = (0, (((1,), 0),))
        for thing in NO_LISTS + (
                (), ("apart",), ("tied",), ("tied", start), ("apart", form, ()), ("apart", form, start),
                ("tied", start, (), ()),
                ["apart", form], ["tied", start, ()], (form, "apart"), (start, "tied", ()),
                ("Apart", form), ("apart ", form),
                ("tied", form), ("apart", start, ()), ("", form), (b"apart", form), (b"tied", start, ()),
                (None, form),
                (True, start, ()), (0, start, ()), (("apart",), form), (["tied"], start, ()), ({}, form),
                (nested(48), form),
                nested(50), "ab", "abc", {"apart": form}):
            for other in (0, 1):
                check_refused(self, BadPaper, "word", "form", check, LINE, (0,), (0, (0,)), (0, (other,)), thing)

    def test_wrong_arguments_in_their_order(self):
        check_wrong_rounds(self, lambda program, lot, one, other: check(program, lot, one, other, None))


class TestInterface(unittest.TestCase):
    def test_names_of_arguments(self):
        check_names(self, papers, {
            "paper": ["program", "lot", "one", "other"],
            "check": ["program", "lot", "one", "other", "paper"],
        })

    def test_by_name(self):
        told = paper(other=(0, (2,)), one=(0, (1,)), lot=(0,), program=LINE)
        self.assertEqual(told[0], "apart")
        self.assertEqual(check(paper=told, other=(0, (2,)), one=(0, (1,)), lot=(0,), program=LINE), "apart")


def check_wrong_rounds(test, call):
    """The call refuses a wrong PROGRAM, then a wrong LOT, then wrong ROUNDS."""
    for program in PROGRAMS:
        good = (0, (0,) * program[0])
        for thing in no_rounds(program):
            check_refused(test, BadRound, "value", thing, call, program, (), thing, None)
            check_refused(test, BadRound, "value", thing, call, program, (), good, thing)
        for thing in no_lots(program):
            check_refused(test, BadLot, "value", thing, call, program, thing, None, None)
    for thing, place in no_programs():
        check_refused(test, BadProgram, "place", place, call, thing, None, None, None)


if __name__ == "__main__":
    unittest.main()

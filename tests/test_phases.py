"""Points 50 and 51: PLANS, loads, changes, COSTS, and PAPERS on the least one."""

import itertools
import unittest

from owncells import phases
from owncells.errors import BadChoice, BadNumber, BadPaper, BadPlan
from owncells.forms import finest
from owncells.phases import best_choice, change, check_plan, cost, least_cost, load, need_plan, plan_paper
from owncells.sending import sent
from tests.samples import (
    LINE, NO_LISTS, PLANE, SIXTY, SPACE, TRIANGLE, Sequence, cells_at, check_names, check_refused,
    check_told, form_of, in_each, nested, no_plans, number_of, one_loop, rounds_within)

READ, WRITE = "read", "write"

MOST = 10 ** 30

# Each ROUND writes a cell and reads the next one.
NEXT = one_loop(((0, 0), (0, 1)))

OWN = (form_of(0, (1, 0)),)
HALVES = (form_of(2, (1, 0)),)
ONE = ()

# By ONE all is in one hand, by OWN each ROUND has its own, by HALVES every other one.
ORDINARY = (
    (NEXT, (ONE, OWN), ((0, 4),)),
    (NEXT, (OWN, HALVES, ONE), ((2, 6),)),
    (LINE, (HALVES,), ((0, 9),)),
)

# The same as in the first half of a plane by rows, and then by columns.
TURNED = (
    (PLANE, ((), ((0, (((1, 0), 0),) * 3),)), ((0, 2), (0, 2))),
    (PLANE, (((0, (((0, 1), 0),) * 3),), ((0, (((1, 0), 0),) * 3),)), ((0, 2), (1, 3))),
)

FOUR_CELLS = (1, (((0,),),) * 4, (tuple((array, (0,), READ) for array in range(4)),))

NO_NUMBERS = (-1, SIXTY, True, False, None, "0", "", b"", (), (0,), [0], {}, object(), nested(50))


def holders_by_words(phase, dealing):
    """A dict from each CELL that is touched in the BOX to the tuple of its holders."""
    program, _, box = phase
    lot = tuple(range(len(program[1])))
    found = {}
    for one in rounds_within(program, box):
        for cell in cells_at(program, lot, one):
            found.setdefault(cell, set()).add(tuple(number_of(form, one) for form in dealing))
    return {cell: tuple(sorted(hands)) for cell, hands in found.items()}


def load_by_words(phase, number):
    return sum(len(hands) - 1 for hands in holders_by_words(phase, phase[1][number]).values())


def change_by_words(plan, phase, number, far):
    near = holders_by_words(plan[phase], plan[phase][1][number])
    other = holders_by_words(plan[phase + 1], plan[phase + 1][1][far])
    return sum(near[cell] != other[cell] for cell in near if cell in other)


def costs_by_words(plan):
    """A dict from each CHOICE, ascending, to its COST."""
    loads = [[load_by_words(phase, number) for number in range(len(phase[1]))] for phase in plan]
    changes = [[[change_by_words(plan, at, number, far) for far in range(len(plan[at + 1][1]))]
                for number in range(len(plan[at][1]))] for at in range(len(plan) - 1)]
    return {choice: sum(loads[at][number] for at, number in enumerate(choice))
            + sum(changes[at][near][far] for at, (near, far) in enumerate(zip(choice, choice[1:])))
            for choice in itertools.product(*[range(len(phase[1])) for phase in plan])}


def some_form(numbers, program):
    row = tuple(numbers.between(-1, 1) for _ in range(program[0]))
    return (0, 2, 3)[numbers.under(3)], tuple((row, numbers.between(0, 2)) for _ in program[2])


def some_plans(start, many):
    """PLANS whose phases have mostly the same arrays, so that there are changes."""
    numbers = Sequence(start)
    for _ in range(many):
        depth = numbers.between(1, 3)
        first = numbers.program(depth, 2, 2)
        plan = []
        for _ in range(numbers.between(1, 4)):
            program = first
            if numbers.under(3) == 0:
                program = (depth, first[1], numbers.program(depth, 2, 2)[2])
            if numbers.under(6) == 0 or not is_program(program):
                program = numbers.program(numbers.between(1, 3), 2, 2)
            dealings = tuple(tuple(some_form(numbers, program) for _ in range(numbers.under(3)))
                             for _ in range(numbers.between(1, 4)))
            most = (0, 9, 3, 2)[program[0]]
            lows = [numbers.between(-2, 2) for _ in range(program[0])]
            plan.append((program, dealings, tuple((low, low + numbers.under(most)) for low in lows)))
        yield tuple(plan)


def is_program(program):
    """Whether each reference fits the arrays."""
    _, arrays, statements = program
    return all(array < len(arrays) and len(arrays[array]) == len(offset)
               for references in statements for array, offset, _ in references)


class TestNeedPlan(unittest.TestCase):
    def test_it_is_told_itself(self):
        for plan in (ORDINARY, TURNED, ORDINARY[:1], ORDINARY + ORDINARY[:1], ((FOUR_CELLS, ((),) * 4, ((5, 5),)),)):
            self.assertIs(need_plan(plan), plan)
            self.assertIs(need_plan(thing=plan), plan)

    def test_phases_of_one_to_four_and_of_five_and_of_none(self):
        for many in range(1, 5):
            self.assertEqual(need_plan(ORDINARY[:1] * many), ORDINARY[:1] * many)
        for many in (0, 5):
            check_refused(self, BadPlan, "place", (), need_plan, ORDINARY[:1] * many)

    def test_dealings_of_one_to_four_and_of_five_and_of_none(self):
        for many in range(6):
            plan = ORDINARY[:1] + ((NEXT, (OWN,) * many, ((0, 0),)),)
            if 1 <= many <= 4:
                self.assertIs(need_plan(plan), plan)
            else:
                check_refused(self, BadPlan, "place", (1, 1), need_plan, plan)

    def test_thirteen_forms_and_fourteen(self):
        for many in (13, 14):
            plan = ((NEXT, ((), OWN * many), ((0, 0),)),)
            if many == 13:
                self.assertIs(need_plan(plan), plan)
            else:
                check_refused(self, BadPlan, "place", (0, 1, 1), need_plan, plan)

    def test_1000_rounds_and_more(self):
        two = one_loop(((0, 0),), ((0, 0),))
        for program, box in ((NEXT, ((1, 1000),)), (NEXT, ((-SIXTY, 999 - SIXTY),)), (two, ((1, 500),)),
                             (PLANE, ((0, 8), (0, 36))), (SPACE, ((0, 9), (1, 5), (-5, 4)))):
            plan = ((program, ((),), box),)
            self.assertIs(need_plan(plan), plan)
            longer = box[:-1] + ((box[-1][0], box[-1][1] + 1),)
            plan = ((program, ((),), longer),)
            check_refused(self, BadPlan, "place", (0, 2), need_plan, plan)

    def test_the_first_thing_that_is_wrong(self):
        for thing, place in no_plans():
            check_refused(self, BadPlan, "place", place, need_plan, thing)

    def test_phase_by_phase(self):
        good = ORDINARY[0]
        no_box, no_dealing, no_program = good[:2] + (0,), (NEXT, (ONE, None), 0), (None, 0, 0)
        for wrong, place in (
                ((no_box, None), (0, 2)), ((no_dealing, None), (0, 1, 1)), ((no_program, no_box), (0, 0)),
                ((good, no_box, no_program), (1, 2)), ((good, good, no_dealing, ()), (2, 1, 1)),
                ((None, no_program), (0,)), ((good, None, None), (1,)), ((good, good, good, (NEXT, (), 0)), (3, 1))):
            check_refused(self, BadPlan, "place", place, need_plan, wrong)

    def test_each_program_has_its_own_dealings(self):
        plan = ((NEXT, (OWN,), ((0, 1),)), (PLANE, ((),), ((0, 1), (0, 1))), (NEXT, ((), ()), ((0, 1),)))
        self.assertIs(need_plan(plan), plan)
        check_refused(self, BadPlan, "place", (1, 1, 0), need_plan, (plan[0], (PLANE, (OWN,), ((0, 1), (0, 1)))))
        check_refused(self, BadPlan, "place", (1, 2), need_plan, (plan[0], (PLANE, ((),), ((0, 1),))))


class TestLoad(unittest.TestCase):
    def test_ordinary_phases(self):
        for phase, number, told in ((0, 0, 0), (0, 1, 4), (1, 0, 4), (1, 1, 4), (1, 2, 0), (2, 0, 0)):
            check_told(self, told, load, ORDINARY, phase, number)
        for phase, number, told in ((0, 0, 0), (0, 1, 6), (1, 0, 6), (1, 1, 6)):
            check_told(self, told, load, TURNED, phase, number)

    def test_cells_of_all_arrays_are_sent(self):
        plan = ((FOUR_CELLS, (OWN, HALVES, ()), ((1, 7),)),)
        for number, told in ((0, 24), (1, 4), (2, 0)):
            check_told(self, told, load, plan, 0, number)

    def test_right_dealings_send_nothing(self):
        for program in (LINE, PLANE, TRIANGLE, SPACE):
            lot = tuple(range(len(program[1])))
            plan = ((program, (finest(program, lot),), ((-1, 2),) * program[0]),)
            check_told(self, 0, load, plan, 0, 0)

    def test_as_all_rounds_say(self):
        found = set()
        for plan in some_plans(101, 60):
            for at, phase in enumerate(plan):
                program, dealings, box = phase
                for number, dealing in enumerate(dealings):
                    told = load_by_words(phase, number)
                    check_told(self, told, load, plan, at, number)
                    self.assertEqual(sent(program, tuple(range(len(program[1]))), dealing, box), told)
                    found.add(told)
        self.assertGreater(len(found), 15)

    def test_1000_rounds(self):
        plan = ((NEXT, (OWN, HALVES), ((1, 1000),)),)
        check_told(self, 999, load, plan, 0, 0)
        check_told(self, 999, load, plan, 0, 1)

    def test_wrong_arguments_in_their_order(self):
        for thing in NO_NUMBERS + (2, 3):
            check_refused(self, BadNumber, "value", thing, load, ORDINARY, 0, thing)
        for thing in NO_NUMBERS + (3, 4):
            check_refused(self, BadNumber, "value", thing, load, ORDINARY, thing, -7)
        for at, many in enumerate((2, 3, 1)):
            check_refused(self, BadNumber, "value", many, load, ORDINARY, at, many)
        for thing, place in no_plans()[::7]:
            check_refused(self, BadPlan, "place", place, load, thing, None, None)


class TestChange(unittest.TestCase):
    def test_ordinary_phases(self):
        # By ORDINARY, the cells 2 to 5 of array 0 are touched in both of the first BOXES.
        for phase, number, far, told in (
                (0, 0, 2, 0), (0, 0, 0, 4), (0, 0, 1, 4), (0, 1, 0, 2), (0, 1, 1, 4), (0, 1, 2, 4),
                (1, 0, 0, 6), (1, 1, 0, 5), (1, 2, 0, 6)):
            with self.subTest(phase=phase, number=number, far=far):
                self.assertEqual(change_by_words(ORDINARY, phase, number, far), told)
                check_told(self, told, change, ORDINARY, phase, number, far)

    def test_alike_phases_change_nothing(self):
        for dealing in (ONE, OWN, HALVES):
            plan = ((NEXT, (dealing,), ((-5, 9),)),) * 2
            check_told(self, 0, change, plan, 0, 0, 0)

    def test_boxes_without_common_cells(self):
        plan = ((NEXT, (OWN,), ((0, 3),)), (NEXT, (HALVES,), ((5, 9),)))
        check_told(self, 0, change, plan, 0, 0, 0)
        plan = ((NEXT, (OWN,), ((0, 3),)), (NEXT, (HALVES,), ((4, 9),)))
        check_told(self, 1, change, plan, 0, 0, 0)

    def test_arrays_of_unlike_rows_have_no_common_cells(self):
        program = (1, (((1,), (0,)),), (((0, (0, 0), READ),),))
        plan = ((NEXT, (OWN,), ((0, 3),)), (program, (ONE,), ((0, 3),)))
        check_told(self, 0, change, plan, 0, 0, 0)

    def test_cells_that_several_arrays_have_at_one_spot(self):
        # Both arrays have a cell (0,); array 0 alone is in both phases.
        near = (1, (((0,),), ((0,),)), (((0, (0,), READ),), ((1, (0,), READ),)))
        far = (1, (((0,),), ((0,),)), (((0, (0,), READ),), ((0, (0,), READ),)))
        by = (form_of(0, (0, 1), (0, 2)),)
        for plan, told in ((((near, (by,), ((0, 0),)), (near, (by,), ((3, 3),))), 0),
                           (((near, (by,), ((0, 0),)), (far, (by,), ((0, 0),))), 1),
                           (((near, (by,), ((0, 0),)), (near, ((form_of(0, (0, 2), (0, 1)),),), ((0, 0),))), 2)):
            check_told(self, told, change, plan, 0, 0, 0)

    def test_holders_count_as_a_whole(self):
        # The cell is held by the hands 0 to 2, then by 1 to 3; HANDS are tuples of NUMBERS.
        plan = ((FOUR_CELLS, (OWN,), ((0, 2),)), (FOUR_CELLS, (OWN, OWN * 2, (form_of(3, (1, 5)),)), ((1, 3),)))
        check_told(self, 4, change, plan, 0, 0, 0)
        check_told(self, 4, change, plan, 0, 0, 1)
        check_told(self, 0, change, plan, 0, 0, 2)

    def test_as_all_rounds_say(self):
        found = set()
        for plan in some_plans(102, 50):
            for at in range(len(plan) - 1):
                for number in range(len(plan[at][1])):
                    for far in range(len(plan[at + 1][1])):
                        told = change_by_words(plan, at, number, far)
                        check_told(self, told, change, plan, at, number, far)
                        found.add(told)
        self.assertGreater(len(found), 15)

    def test_wrong_arguments_in_their_order(self):
        for thing in NO_NUMBERS + (3,):
            check_refused(self, BadNumber, "value", thing, change, ORDINARY, 0, 1, thing)
        for thing in NO_NUMBERS + (2,):
            check_refused(self, BadNumber, "value", thing, change, ORDINARY, 0, thing, -7)
        for thing in NO_NUMBERS + (2, 3):
            check_refused(self, BadNumber, "value", thing, change, ORDINARY, thing, -7, -8)
        check_refused(self, BadNumber, "value", 1, change, ORDINARY, 1, 0, 1)
        check_refused(self, BadNumber, "value", 0, change, ORDINARY[:1], 0, 0, 0)
        for thing, place in no_plans()[::7]:
            check_refused(self, BadPlan, "place", place, change, thing, None, None, None)


class TestCost(unittest.TestCase):
    def test_ordinary_choices(self):
        told = costs_by_words(ORDINARY)
        self.assertEqual((told[(0, 2, 0)], told[(1, 1, 0)], told[(1, 0, 0)]), (6, 17, 16))
        for choice, total in told.items():
            check_told(self, total, cost, ORDINARY, choice)

    def test_of_one_phase_it_is_the_load(self):
        for number, told in ((0, 0), (1, 4)):
            check_told(self, told, cost, ORDINARY[:1], (number,))

    def test_as_loads_and_changes_together(self):
        for plan in some_plans(103, 25):
            for choice, told in list(costs_by_words(plan).items())[::3]:
                check_told(self, told, cost, plan, choice)

    def test_wrong_arguments_in_their_order(self):
        for thing in NO_LISTS + (
                (), (0, 0), (0, 0, 0, 0), [0, 0, 0], (2, 0, 0), (0, 3, 0), (0, 0, 1), (-1, 0, 0), (0, -1, 0),
                ((0, 0, 0),), nested(50)) + in_each((0, 0, 0), NO_NUMBERS + (3,)):
            check_refused(self, BadChoice, "value", thing, cost, ORDINARY, thing)
        for thing, place in no_plans()[::7]:
            check_refused(self, BadPlan, "place", place, cost, thing, None)


class TestLeastCost(unittest.TestCase):
    def test_ordinary_plans(self):
        for plan, told, choice in ((ORDINARY, 6, (0, 2, 0)), (ORDINARY[:2], 0, (0, 2)), (ORDINARY[:1], 0, (0,)),
                                   (ORDINARY[1:], 6, (2, 0)), (ORDINARY[1:2], 0, (2,)), (ORDINARY[2:], 0, (0,))):
            check_told(self, told, least_cost, plan)
            check_told(self, choice, best_choice, plan)

    def test_the_first_one_of_equal_cost(self):
        phase = (NEXT, (OWN, HALVES, OWN, HALVES), ((0, 5),))
        for many in range(1, 5):
            check_told(self, (0,) * many, best_choice, (phase,) * many)
            check_told(self, 5 * many, least_cost, (phase,) * many)
        plan = ((NEXT, (OWN, HALVES), ((0, 5),)), (NEXT, (HALVES, OWN), ((0, 5),)))
        check_told(self, (0, 1), best_choice, plan)
        # The first DEALING is as good as the second one, but all that is behind counts.
        plan = ((NEXT, (OWN, HALVES), ((0, 5),)), (NEXT, (HALVES, HALVES), ((0, 5),)))
        check_told(self, (1, 0), best_choice, plan)

    def test_a_change_that_is_worth_it(self):
        # OWN first costs a load, but no change to what has to come.
        plan = ((LINE, (ONE, OWN), ((0, 99),)), (LINE, (OWN,), ((0, 99),)))
        check_told(self, (1, 0), best_choice, plan)
        check_told(self, 0, least_cost, plan)
        plan = ((NEXT, (ONE, OWN), ((0, 9),)), (LINE, (OWN,), ((0, 1),)))
        check_told(self, (0, 0), best_choice, plan)
        check_told(self, 2, least_cost, plan)

    def test_as_all_choices_say(self):
        found = set()
        for plan in some_plans(104, 80):
            told = costs_by_words(plan)
            least = min(told.values())
            check_told(self, least, least_cost, plan)
            first = [choice for choice, total in told.items() if total == least][0]
            check_told(self, first, best_choice, plan)
            found.add((first, least))
        self.assertGreater(len(found), 50)

    def test_great_plans(self):
        forms = [finest(SPACE, lot) for lot in ((), (0,), (0, 1, 2))] + [()]
        phase = (SPACE, tuple(forms), ((0, 9), (0, 9), (0, 4)))
        check_told(self, 0, least_cost, (phase,) * 4)
        check_told(self, (2, 2, 2, 2), best_choice, (phase,) * 4)

    def test_wrong_plans(self):
        for thing, place in no_plans():
            check_refused(self, BadPlan, "place", place, least_cost, thing)
            check_refused(self, BadPlan, "place", place, best_choice, thing)


class TestPlanPaper(unittest.TestCase):
    def check_paper(self, plan):
        """The PAPER holds, by the words of point 51."""
        told = plan_paper(plan)
        check_told(self, told, plan_paper, plan)
        choice, rests = told
        costs = costs_by_words(plan)
        self.assertEqual(costs[choice], min(costs.values()))
        self.assertEqual(min(rests[0]), costs[choice])
        self.assertEqual([len(row) for row in rests], [len(dealings) for _, dealings, _ in plan])
        self.assertIs(rests.__class__, tuple)
        for at, row in enumerate(rests):
            self.assertIs(row.__class__, tuple)
            for number, rest in enumerate(row):
                self.assertIs(rest.__class__, int)
                total = load_by_words(plan[at], number)
                if at == len(plan) - 1:
                    self.assertLessEqual(rest, total)
                    continue
                for far, ahead in enumerate(rests[at + 1]):
                    self.assertLessEqual(rest, total + change_by_words(plan, at, number, far) + ahead)
        check_told(self, costs[choice], check_plan, plan, told)

    def test_ordinary_plans(self):
        for plan in (ORDINARY, TURNED, ORDINARY[:1], ORDINARY[1:], ORDINARY + ORDINARY[:1]):
            self.check_paper(plan)

    def test_other_plans(self):
        for plan in some_plans(105, 60):
            self.check_paper(plan)

    def test_wrong_plans(self):
        for thing, place in no_plans()[::3]:
            check_refused(self, BadPlan, "place", place, plan_paper, thing)


class TestCheckPlan(unittest.TestCase):
    # The loads are 0, 4; 4, 4, 0; 0, the changes to the last phase 6, 5, 6.
    RESTS = ((6, 14), (10, 9, 6), (0,))

    def check_fails(self, word, plan, paper):
        check_refused(self, BadPaper, "word", word, check_plan, plan, paper)

    def test_the_greatest_rests(self):
        check_told(self, 6, check_plan, ORDINARY, ((0, 2, 0), self.RESTS))

    def test_each_rest_that_is_greater_is_refused(self):
        for at, row in enumerate(self.RESTS):
            for number, rest in enumerate(row):
                for by in (1, 2, SIXTY):
                    changed = row[:number] + (rest + by,) + row[number + 1:]
                    rests = self.RESTS[:at] + (changed,) + self.RESTS[at + 1:]
                    self.check_fails("rests", ORDINARY, ((0, 2, 0), rests))

    def test_rests_lower_than_they_could_be(self):
        for rests in (((6, 6), (10, 8, 6), (0,)), ((6, 10), (6, 6, 6), (0,)), ((6, 9), (9, 8, 6), (0,)),
                      ((6, 8), (2, 4, 6), (0,))):
            check_told(self, 6, check_plan, ORDINARY, ((0, 2, 0), rests))
        for rests in (((5, 10), (10, 8, 6), (0,)), ((6, 5), (10, 8, 6), (0,)), ((6, 10), (1, 8, 6), (0,)),
                      ((6, 10), (10, 8, 5), (0,)), ((6, 10), (10, 8, 6), (-1,)), ((-SIXTY, 10), (10, 8, 6), (0,)),
                      ((5, 5), (5, 5, 5), (-1,))):
            self.check_fails("rests", ORDINARY, ((0, 2, 0), rests))

    def test_rests_that_say_less_than_the_cost(self):
        # They hold as bounds, but the least one is not the COST.
        low = ((0, 0), (0, 0, 0), (0,))
        self.check_fails("rests", ORDINARY, ((0, 2, 0), low))

    def test_a_choice_that_is_not_the_best(self):
        for choice, total in costs_by_words(ORDINARY).items():
            if total == 6:
                check_told(self, 6, check_plan, ORDINARY, (choice, self.RESTS))
            else:
                self.check_fails("rests", ORDINARY, (choice, self.RESTS))
                raised = ((total, total), (10, 8, 6), (0,))
                self.check_fails("rests", ORDINARY, (choice, raised))

    def test_each_choice_with_the_least_cost(self):
        phase = (NEXT, (OWN, HALVES, OWN), ((0, 5),))
        for choice in itertools.product(range(3), repeat=2):
            paper = choice, ((10, 10, 10), (5, 5, 5))
            if (choice[0] == 1) == (choice[1] == 1):
                check_told(self, 10, check_plan, (phase,) * 2, paper)
            else:
                self.check_fails("rests", (phase,) * 2, paper)

    def test_other_plans(self):
        numbers = Sequence(106)
        for plan in some_plans(107, 60):
            choice, rests = plan_paper(plan)
            at = numbers.under(len(plan))
            number = numbers.under(len(rests[at]))
            by = numbers.between(-2, 2)
            row = rests[at][:number] + (rests[at][number] + by,) + rests[at][number + 1:]
            changed = rests[:at] + (row,) + rests[at + 1:]
            if self.holds(plan, choice, changed):
                check_told(self, cost(plan, choice), check_plan, plan, (choice, changed))
            else:
                self.check_fails("rests", plan, (choice, changed))

    def holds(self, plan, choice, rests):
        for at, row in enumerate(rests):
            for number, rest in enumerate(row):
                if at == len(plan) - 1:
                    most = [load_by_words(plan[at], number)]
                else:
                    most = [load_by_words(plan[at], number) + change_by_words(plan, at, number, far) + ahead
                            for far, ahead in enumerate(rests[at + 1])]
                if rest > min(most):
                    return False
        return min(rests[0]) == costs_by_words(plan)[choice]

    def test_values_that_are_no_pair(self):
        paper = ((0, 2, 0), self.RESTS)
        for thing in NO_LISTS + ((), paper[:1], paper + (0,), list(paper), nested(50), {paper: 0}):
            self.check_fails("form", ORDINARY, thing)

    def test_values_that_are_no_choice(self):
        for thing in NO_LISTS + ((), (0, 2), (0, 2, 0, 0), [0, 2, 0], (2, 2, 0), (0, 3, 0), (0, 2, 1), (0, -1, 0),
                                 nested(48)) + in_each((0, 2, 0), NO_NUMBERS[2:-1] + (nested(46),)):
            self.check_fails("choice", ORDINARY, (thing, self.RESTS))
            self.check_fails("choice", ORDINARY, (thing, None))

    def test_values_that_are_no_rests(self):
        bad = (None, True, False, "6", b"", (6,), [6], {})
        cases = NO_LISTS + ((), self.RESTS[:2], self.RESTS + ((0,),), list(self.RESTS), (6, 10, 10), nested(48))
        cases += in_each(self.RESTS, NO_LISTS + ((), (6, 10, 8, 6), (0, 0, 0, 0), nested(46)))
        cases += tuple(self.RESTS[:at] + (row,) + self.RESTS[at + 1:]
                       for at in range(3) for row in in_each(self.RESTS[at], bad))
        for thing in cases:
            self.check_fails("rests", ORDINARY, ((0, 2, 0), thing))
        # False is no integer, though it is equal to 0.
        self.check_fails("rests", ORDINARY, ((0, 2, 0), self.RESTS[:2] + ((False,),)))
        self.check_fails("choice", ORDINARY, ((False, 2, 0), self.RESTS))

    def test_wrong_plans(self):
        for thing, place in no_plans()[::3]:
            check_refused(self, BadPlan, "place", place, check_plan, thing, None)


class TestInterface(unittest.TestCase):
    def test_names_of_arguments(self):
        check_names(self, phases, {
            "need_plan": ["thing"],
            "load": ["plan", "phase", "number"],
            "change": ["plan", "phase", "number", "far"],
            "cost": ["plan", "choice"],
            "least_cost": ["plan"],
            "best_choice": ["plan"],
            "plan_paper": ["plan"],
            "check_plan": ["plan", "paper"],
        })

    def test_by_name(self):
        self.assertEqual(load(number=1, phase=0, plan=ORDINARY), 4)
        self.assertEqual(change(far=0, number=1, phase=0, plan=ORDINARY), 2)
        self.assertEqual(cost(choice=(0, 2, 0), plan=ORDINARY), 6)
        self.assertEqual(least_cost(plan=ORDINARY), 6)
        self.assertEqual(best_choice(plan=ORDINARY), (0, 2, 0))
        self.assertEqual(check_plan(paper=plan_paper(plan=ORDINARY), plan=ORDINARY), 6)


if __name__ == "__main__":
    unittest.main()

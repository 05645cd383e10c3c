"""Point 75: a desk that answers lines."""

import inspect
import unittest

from owncells.desk import Desk
from owncells.errors import BadProgram, BadText
from owncells.hands import are_tied, many_hands
from owncells.lattices import groups, ways_apart
from owncells.nest import Nest
from owncells.programs import written
from owncells.texts import program_text
from tests.samples import (
    LINE, PLANE, PROGRAMS, SIXTY, SPACE, TRIANGLE, Sequence, lots_of, nested, one_loop, samples)

READ, WRITE = "read", "write"

# Array 0 has steps of 6 for statement 0, array 1 of 4 for 1; array 2 joins 0 and 2.
JOINED = one_loop(((0, 0), (0, 6), (2, 0)), ((1, 0), (1, 8)), ((2, 3), (3, 1)))


def desk_of(program):
    return Desk(program_text(program))


def spaced(numbers):
    return " ".join(map(str, numbers))


class TestDesk(unittest.TestCase):
    def check_says(self, desk, line, told):
        """The answer, of a line that changes nothing."""
        before = desk.nest.program, len(desk.nest)
        for _ in range(2):
            self.assertEqual(desk.say(line), told, line)
        self.assertEqual((desk.nest.program, len(desk.nest)), before, line)

    def check_no(self, desk, *lines):
        for line in lines:
            self.check_says(desk, line, "no")

    def test_it_is_made_of_a_text(self):
        for program in PROGRAMS + (TRIANGLE, JOINED):
            desk = Desk(text=program_text(program))
            self.assertIs(desk.nest.__class__, Nest)
            self.assertIs(desk.nest, desk.nest)
            self.assertEqual((desk.nest.program, len(desk.nest)), (program, 0))

    def test_wrong_texts(self):
        for thing, told in ((None, (None, None)), (7, (None, None)), (b"depth 1", (None, None)), (PLANE, (None, None)),
                            ("", (0, 0)), ("depth 1", (1, 0)), (program_text(LINE) + "\n", (4, 0))):
            with self.assertRaises(BadText) as caught:
                Desk(thing)
            self.assertEqual((caught.exception.line, caught.exception.word), told)
        with self.assertRaises(BadProgram) as caught:
            Desk(program_text(LINE).replace("array 1", "array 5"))
        self.assertEqual(caught.exception.place, (1, 0))

    def test_the_nest_is_not_set(self):
        desk = desk_of(LINE)
        with self.assertRaises(AttributeError):
            desk.nest = Nest(PLANE)
        self.assertEqual(desk.nest.program, LINE)

    def test_the_very_nest(self):
        desk, other = desk_of(PLANE), desk_of(PLANE)
        nest = desk.nest
        nest.drop(0)
        self.assertEqual(desk.say("statements"), "2")
        self.assertEqual(desk.say("drop 0"), "done")
        self.assertEqual(len(nest), 2)
        self.assertEqual(len(nest.program[2]), 1)
        with nest.trial():
            self.assertEqual(desk.say("undo"), "done")
            self.assertEqual(desk.say("undo"), "done")
            self.assertEqual(desk.say("statements"), "3")
        self.assertEqual(desk.say("statements"), "1")
        self.assertEqual(other.say("statements"), "3")

    def test_put(self):
        desk = desk_of(PLANE)
        self.assertEqual(desk.say("put write 1 -9 9 / read 0 0"), "done")
        self.assertEqual(desk.nest.program, PLANE[:2] + (PLANE[2] + (((1, (-9, 9), WRITE), (0, (0,), READ)),),))
        self.check_no(desk, "put read 0 0")
        self.assertEqual(desk.say("drop 0"), "done")
        self.check_no(
            desk, "put", "put ", "put /", "put read", "put read 0", "put 0 0", "put read 0 0 /", "put / read 0 0",
            "put read 0 0 / ", "put read 0 0 / / read 0 0", "put read 0 0/ read 0 0", "put  read 0 0", "put read  0 0",
            "put read 0 0 ", " put read 0 0", "put read 0 0 0", "put read 1 0", "put read 3 0", "put read 0 10",
            "put read -1 0", "put Read 0 0", "put read 0 00", "put read 0 +1", "put read 0 -0", "put read 0 0\n",
            "put read 0 0 ; read 0 0", "put read 0 0, read 0 0", "Put read 0 0", "put write read 0 0", "put read 0 x",
            "put read 0 0 read 0 0", "puts read 0 0", "put statement", "put read 0 " + "1" * 32,
            "put " + " / ".join(["read 0 0"] * 5))
        self.assertEqual(desk.say("put " + " / ".join(["read 0 -9"] * 4)), "done")
        self.assertEqual(desk.nest.program[2][3], ((0, (-9,), READ),) * 4)

    def test_drop(self):
        desk = desk_of(TRIANGLE)
        self.check_no(desk, "drop", "drop ", "drop 3", "drop -1", "drop 00", "drop +1", "drop 0 1", "drop 0 ",
                      "drop  0", "drop x", "drop 0/", "drop 1.", "drop 0\n", "\ndrop 0", "Drop 0",
                      "drop " + "1" * 32)
        self.assertEqual(desk.say("drop 1"), "done")
        self.assertEqual(desk.nest.program, TRIANGLE[:2] + ((TRIANGLE[2][0], TRIANGLE[2][2]),))
        self.assertEqual(desk.say("drop 0"), "done")
        self.check_no(desk, "drop 0", "drop 1")
        self.assertEqual(desk.nest.program, TRIANGLE[:2] + (TRIANGLE[2][2:],))

    def test_offset(self):
        desk = desk_of(PLANE)
        self.assertEqual(desk.say("offset 1 0 -9 8"), "done")
        self.assertEqual(desk.nest.program[2][1], ((1, (-9, 8), WRITE), (2, (0, 0), READ)))
        self.assertEqual(desk.say("offset 0 0 3"), "done")
        self.assertEqual(desk.say("offset 0 0 3"), "done")
        self.assertEqual(len(desk.nest), 3)
        self.check_no(desk, "offset", "offset 0", "offset 0 0", "offset 0 0 0 0", "offset 1 0 0", "offset 0 2 0",
                      "offset 3 0 0", "offset 0 -1 0", "offset 0 0 10", "offset 0 0 00", "offset 0 0 -0",
                      "offset 0 0 x", "offset 0 0 / 0", "offset 0 0 0 ", "offset  0 0 0", "offset 0 0 0\n",
                      "offset -1 0 0", "offset 0 0 " + "9" * 31, "offset 0 0 " + "9" * 32)

    def test_undo(self):
        desk = desk_of(PLANE)
        self.check_no(desk, "undo")
        desk.say("drop 0")
        self.check_no(desk, "undo ", "undo 1", " undo", "Undo", "undo\n", "undo undo")
        self.assertEqual(desk.say("undo"), "done")
        self.assertEqual(desk.nest.program, PLANE)
        self.check_no(desk, "undo")

    def test_deeds_that_are_too_many(self):
        desk = desk_of(LINE)
        for _ in range(300):
            self.assertEqual(desk.say("offset 0 0 0"), "done")
        self.check_no(desk, "offset 0 0 0", "put read 0 0")
        self.assertEqual(desk.say("undo"), "done")
        self.assertEqual(desk.say("put read 0 0"), "done")

    def test_program(self):
        for program in PROGRAMS + (TRIANGLE, JOINED):
            desk = desk_of(program)
            self.check_says(desk, "program", program_text(program).replace("\n", " ; "))
        self.check_says(desk_of(LINE), "program", "depth 1 ; array 1 ; statement ; write 0 0")
        self.check_no(desk_of(LINE), "program ", "program 0", " program", "Program", "programs", "program\n")

    def test_statements(self):
        desk = desk_of(LINE)
        for told in ("1", "2", "3", "4"):
            self.check_says(desk, "statements", told)
            desk.say("put read 0 0")
        self.check_no(desk, "statements ", "statements 0", "statement", "Statements", "statements\n")

    def test_written(self):
        for program, told in ((LINE, "0"), (PLANE, "0 1"), (JOINED, "none"), (SPACE, "0 2"), (TRIANGLE, "0 1 2")):
            self.check_says(desk_of(program), "written", told)
            self.assertEqual(spaced(written(program)) or "none", told)
        self.check_no(desk_of(LINE), "written ", "written 0", "Written", "none", "written\n")

    def test_hands(self):
        desk = desk_of(JOINED)
        for line, told in (("hands", "endless"), ("hands 0", "endless"), ("hands 0 1", "endless"),
                           ("hands 0 1 2 3", "10"), ("hands 1 2 3", "endless"), ("hands 0 1 2", "10")):
            self.check_says(desk, line, told)
        desk.say("drop 2")
        for line, told in (("hands", "endless"), ("hands 0 1", "10"), ("hands 0 1 2 3", "10"),
                           ("hands 1 2 3", "endless")):
            self.check_says(desk, line, told)
        self.check_no(desk, "hands ", "hands 4", "hands -1", "hands 1 0", "hands 0 0", "hands 0,1", "hands 0 /",
                      "hands none", "hands 0  1", "hands 0 1 ", "Hands 0", "hand 0", "hands 00", "hands 0 01",
                      "hands 0\n", "hands endless")

    def test_groups(self):
        for program, line, told in (
                (PLANE, "groups", "0 / 1 / 2"), (PLANE, "groups 0", "0 / 1 / 2"), (PLANE, "groups 1", "0 1 / 2"),
                (PLANE, "groups 2", "0 / 1 2"), (PLANE, "groups 0 1 2", "0 1 2"), (TRIANGLE, "groups 2", "0 2 / 1"),
                (LINE, "groups", "0"), (LINE, "groups 0", "0")):
            self.check_says(desk_of(program), line, told)
        self.check_no(desk_of(PLANE), "groups ", "groups 3", "groups 1 0", "groups 0 / 1", "groups x", "Groups",
                      "group")

    def test_ways(self):
        for program, line, told in (
                (LINE, "ways 0", "1"), (LINE, "ways 0 0", "1"), (PLANE, "ways 0 0", "1"), (PLANE, "ways 1 0", "2"),
                (PLANE, "ways 2 0 1 2", "1"), (TRIANGLE, "ways 2 0 1 2", "1 2"), (SPACE, "ways 1 2", "0"),
                (JOINED, "ways 0 0", "0 6"), (JOINED, "ways 1 1", "0 4"), (JOINED, "ways 1 0", "1"),
                (one_loop(((0, 0), (0, 1))), "ways 0 0", "0")):
            self.check_says(desk_of(program), line, told)
        unit = ((1, 0, 0), (0, 1, 0), (0, 0, 1))
        references = tuple((0, offset, READ) for offset in ((0, 0, 0), (4, 0, 0), (0, 6, 0), (0, 0, 9)))
        self.check_says(desk_of((3, (unit,), (references,))), "ways 0 0", "0 6 36")
        self.check_no(desk_of(PLANE), "ways", "ways ", "ways 3", "ways -1", "ways 0 3", "ways 0 1 0", "ways 0 / 1",
                      "ways x", "ways 0 ", "ways 0  1", "ways 00", "Ways 0", "ways 0\n", "way 0")

    def test_tied(self):
        desk = desk_of(PLANE)
        for line, told in (
                ("tied 0 0 0 / 0 4 -4 / 0", "yes"), ("tied 0 0 0 / 0 4 -3 / 0", "apart"),
                ("tied 0 1 2 / 1 0 0 / 1", "yes"), ("tied 0 2 1 / 1 0 0 / 1", "apart"),
                ("tied 0 2 1 / 1 0 0 / 0 1", "yes"), ("tied 0 2 1 / 2 0 0 / 0 1", "apart"),
                ("tied 2 5 5 / 2 5 5 /", "yes"), ("tied 2 5 5 / 2 5 6 /", "apart"),
                ("tied 0 0 0 / 0 " + "9" * 31 + " -" + "9" * 31 + " / 0", "yes"),
                ("tied 2 -5 0 / 2 -5 0 / 0 1 2", "yes")):
            self.check_says(desk, line, told)
        self.check_no(
            desk, "tied", "tied /", "tied / /", "tied 0 0 0 / 0 0 0", "tied 0 0 0 / 0 0 0 / ",
            "tied 0 0 0 / 0 0 0 / 0 /", "tied 0 0 0 / 0 0 0 / / 0", "tied 0 0 / 0 0 0 /", "tied 0 0 0 / 0 0 /",
            "tied 0 0 0 0 / 0 0 0 /", "tied 0 / 0 /", "tied / 0 0 0 /", "tied 0 0 0 / /",
            "tied 3 0 0 / 0 0 0 /", "tied 0 0 0 / 3 0 0 /",
            "tied 0 0 0 / 0 0 0 / 3", "tied 0 0 0 / 0 0 0 / 1 0", "tied 0 0 0 / 0 0 0 /  0", "tied  0 0 0 / 0 0 0 /",
            "tied 0 0 00 / 0 0 0 /", "tied 0 0 0 / 0 0 -0 /", "tied 0 0 x / 0 0 0 /", "tied 0 0 0 /0 0 0 /",
            "tied 0 0 0 0 0 0 /", "tied 0 0 0 / 0 0 0 / x", "tied 0 0 0 / 0 0 " + "9" * 32 + " / 0",
            "Tied 0 0 0 / 0 0 0 /", "tied 0 0 0 / 0 0 0 /\n", "tied -1 0 0 / 0 0 0 /", "tie 0 0 0 / 0 0 0 /")

    def test_what_is_no_line(self):
        desk = desk_of(PLANE)
        self.check_no(desk, None, True, False, 0, 1, SIXTY, b"undo", b"statements", ["statements"], ("statements",),
                      {}, set(), object(), nested(50), "", " ", "  ", "/", "0", "\n", "no", "yes", "done",
                      "depth 2", "read 0 0", "statements\nundo", "help", "nest", "hands\t0", "statements;", "say",
                      "copy", "trial")

    def test_lines_put_together(self):
        desk = desk_of(PLANE)
        desk.say("drop 1")
        lines = ["statements", "written", "hands", "program", "undo", "drop 0", "groups 0", "ways 0 0"]
        self.check_no(desk, *[f"{one} {other}" for one in lines for other in lines])
        self.check_no(desk, *[f"{one}\n{other}" for one in lines for other in lines])
        self.check_no(desk, *[f"{one} ; {other}" for one in lines for other in lines])

    def test_as_the_functions_say(self):
        found = set()
        for program, lot in samples(191, 120, 3, 4):
            desk = desk_of(program)
            numbers = Sequence(len(found))
            for lot in lots_of(program)[::3]:
                behind = "".join(f" {array}" for array in lot)
                many = many_hands(program, lot)
                self.check_says(desk, "hands" + behind, "endless" if many is None else str(many))
                self.check_says(desk, "groups" + behind, " / ".join(map(spaced, groups(program, lot))))
                for statement in range(len(program[2])):
                    free, factors = ways_apart(program, lot, statement)
                    self.check_says(desk, f"ways {statement}{behind}", spaced((free,) + factors))
                    one, other = [self.some_round(numbers, program) for _ in range(2)]
                    told = "yes" if are_tied(program, lot, one, other) else "apart"
                    line = f"tied {spaced((one[0],) + one[1])} / {spaced((other[0],) + other[1])} /{behind}"
                    self.check_says(desk, line, told)
                    found.add((told, many))
        self.assertGreater(len(found), 10)

    def some_round(self, numbers, program):
        return numbers.under(len(program[2])), tuple(numbers.between(-3, 3) for _ in range(program[0]))

    def test_long_rows_of_lines(self):
        numbers = Sequence(192)
        for program in (PLANE, TRIANGLE, JOINED, SPACE):
            desk, nest = desk_of(program), Nest(program)
            for _ in range(200):
                statement = numbers.under(4)
                array = numbers.under(len(program[1]))
                offset = tuple(numbers.between(-9, 9) for _ in program[1][array])
                lines = ((f"put read {array} {spaced(offset)}", nest.put, (((array, offset, READ),),)),
                         (f"drop {statement}", nest.drop, (statement,)), ("undo", nest.undo, ()),
                         (f"offset {statement} 0 {spaced(offset)}", nest.offset, (statement, 0, offset)))
                for line, call, passed in lines[numbers.under(4):]:
                    self.assertEqual(desk.say(line), self.answer(call, passed), line)
                    self.assertEqual(desk.nest, nest)
                    self.assertEqual(len(desk.nest), len(nest))

    def answer(self, call, passed):
        try:
            call(*passed)
        except (ValueError, OverflowError):
            return "no"
        return "done"


class TestInterface(unittest.TestCase):
    def test_methods_are_defined_in_the_class_itself(self):
        for name, arguments in (("__init__", ["text"]), ("say", ["line"])):
            found = Desk.__dict__[name]
            self.assertEqual(list(inspect.signature(found).parameters), ["self"] + arguments)
        self.assertIsInstance(Desk.__dict__["nest"], property)
        self.assertEqual(Desk.__module__, "owncells.desk")

    def test_by_name(self):
        self.assertEqual(Desk(text=program_text(LINE)).say(line="statements"), "1")


if __name__ == "__main__":
    unittest.main()

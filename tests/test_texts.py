"""Points 70 and 71: texts of PROGRAMS and FORMS, written and read."""

import re
import unittest

from owncells import texts
from owncells.errors import BadForm, BadProgram, BadText
from owncells.forms import finest
from owncells.programs import need_program
from owncells.texts import form_text, program_text, read_form, read_program
from tests.samples import (
    LINE, PLANE, PROGRAMS, SIXTY, SPACE, TRIANGLE, check_names, check_refused, check_told, form_of,
    lots_of, nested, no_forms, no_programs, samples)

PLANE_TEXT = """\
depth 2
array 1 1
array 2 0 / 0 2
array 1 0 / 0 1
statement
write 0 0
read 1 0 0
statement
write 1 2 4
read 2 0 0
statement
read 2 9 -9
read 2 9 -9"""

LINE_TEXT = "depth 1\narray 1\nstatement\nwrite 0 0"

# As much as a PROGRAM can have.
GREATEST = (3, (((-4, -4, -4),) * 3,) * 4, (((3, (-9, -9, -9), "write"),) * 4,) * 4)

MOST = 10 ** 30

INT, END = "an integer", "the end of the line"

# For what can stand at a place, what comes behind it.
PROGRAM_FORM = {
    "first": {"depth": "depth"},
    "depth": {INT: "depth end"},
    "depth end": {END: "arrays"},
    "arrays": {"array": "row"},
    "row": {INT: "row on"},
    "row on": {INT: "row on", "/": "row", END: "more arrays"},
    "more arrays": {"array": "row", "statement": "statement end"},
    "statement end": {END: "references"},
    "references": {"read": "number", "write": "number"},
    "number": {INT: "offset"},
    "offset": {INT: "offset on"},
    "offset on": {INT: "offset on", END: "last"},
    "last": {"read": "number", "write": "number", "statement": "statement end"},
}

FORM_FORM = {
    "first": {INT: "terms"},
    "terms": {"/": "row"},
    "row": {INT: "shift"},
    "shift": {INT: "shift on"},
    "shift on": {INT: "shift on", "/": "row", END: "last"},
    "last": {},
}

WORDS = ("", "0", "-3", "10", "x", "/", "//", "depth", "array", "statement", "read", "write", "Read", "array1",
         "00", "-0", "+1", "01", "-01", "1.", "--1", "-", "1_0", "1e3", "9" * 31, "9" * 32, "-" + "1" * 31,
         "-" + "1" * 32)


def first_wrong(form, text):
    """The line and the word of the first thing that can't stand there, or None."""
    lines = text.split("\n")
    state = "first"
    for number, line in enumerate(lines):
        words = line.split(" ")
        for spot, word in enumerate(words):
            kind = INT if re.fullmatch("0|-?[1-9][0-9]{0,30}", word) else word
            if kind not in form[state]:
                return number, spot
            state = form[state][kind]
        if END not in form[state]:
            return number, len(words)
        state = form[state][END]
    return None if state == "last" else (len(lines), 0)


def told_program(text):
    """What a text tells that is right by its form."""
    lines = [line.split(" ") for line in text.split("\n")]
    arrays = tuple(tuple(tuple(map(int, row.split())) for row in " ".join(line[1:]).split("/"))
                   for line in lines if line[0] == "array")
    statements = []
    for line in lines:
        if line[0] == "statement":
            statements.append(())
        elif line[0] in ("read", "write"):
            statements[-1] += ((int(line[1]), tuple(map(int, line[2:])), line[0]),)
    return int(lines[0][1]), arrays, tuple(statements)


def told_form(text):
    modulus, *terms = text.split(" / ")
    rows = [tuple(map(int, term.split())) for term in terms]
    return int(modulus), tuple((row[:-1], row[-1]) for row in rows)


def changed(text):
    """Texts near the text: with words and lines left out, doubled, put in, changed."""
    lines = text.split("\n")
    found = []
    for number, line in enumerate(lines):
        words = line.split(" ")
        ahead, behind = lines[:number], lines[number + 1:]
        rows = [words + [word] for word in WORDS]
        for spot in range(len(words)):
            rows += [words[:spot] + words[spot + 1:], words[:spot] + words[spot:spot + 1] + words[spot:]]
            rows += [words[:spot] + [word] + words[spot:] for word in WORDS]
            rows += [words[:spot] + [word] + words[spot + 1:] for word in WORDS]
        found += ["\n".join(ahead + [" ".join(row)] + behind) for row in rows]
        found += ["\n".join(ahead + behind), "\n".join(ahead + [line, line] + behind), "\n".join(ahead),
                  "\n".join(ahead + ["", line] + behind), "\n".join(ahead + [" "] + behind),
                  "\n".join(ahead + [line + "  "] + behind), "\n".join(ahead + behind[:1] + [line] + behind[1:]),
                  "\n".join(ahead + [line.replace(" ", "  ", 1)] + behind), "\n".join(ahead + [line.upper()] + behind)]
    return found + [text + "\n", "\n" + text, text + "\n\n", " " + text, "", " ", "\n", "\n\n\n",
                    text.replace("\n", " "), text.replace("\n", "\r\n"), text.replace(" ", "\t")]


def check_bad_text(test, told, call, *passed):
    """The call refuses the text twice alike, with the line and the word that are told."""
    for _ in range(2):
        with test.assertRaises(BadText) as caught:
            call(*passed)
        test.assertEqual((caught.exception.line, caught.exception.word), told, passed)


class TestProgramText(unittest.TestCase):
    def test_letter_by_letter(self):
        check_told(self, PLANE_TEXT, program_text, PLANE)
        check_told(self, LINE_TEXT, program_text, LINE)
        text = ("depth 3\narray 1 0 0 / 0 1 0 / 0 0 1\narray 4 -4 0\narray 0 0 0\nstatement\nwrite 0 0 0 0\n"
                "read 0 9 -9 1\nstatement\nread 1 4\nwrite 2 0")
        check_told(self, text, program_text, SPACE)

    def test_the_greatest_program(self):
        row = "-4 -4 -4"
        lines = ["depth 3"] + [f"array {row} / {row} / {row}"] * 4 + (["statement"] + ["write 3 -9 -9 -9"] * 4) * 4
        check_told(self, "\n".join(lines), program_text, GREATEST)

    def test_wrong_programs(self):
        for thing, place in no_programs():
            check_refused(self, BadProgram, "place", place, program_text, thing)


class TestReadProgram(unittest.TestCase):
    def test_what_was_written_is_read_back(self):
        for program in PROGRAMS + (TRIANGLE, GREATEST):
            check_told(self, program, read_program, program_text(program))
        for program, _ in samples(181, 200, 4, 9):
            check_told(self, program, read_program, program_text(program))

    def test_what_is_no_string(self):
        for thing in (None, True, False, 0, -1, SIXTY, b"", LINE_TEXT.encode(), (), [], [LINE_TEXT], (LINE_TEXT,), {},
                      set(), object(), nested(50)):
            check_bad_text(self, (None, None), read_program, thing)

    def test_where_a_word_can_not_stand(self):
        for text, told in (
                ("", (0, 0)), ("depth", (0, 1)), ("depth ", (0, 1)), ("depth 1", (1, 0)), ("depth 1 2", (0, 2)),
                ("depth 1 ", (0, 2)), ("depth  1", (0, 1)), (" depth 1", (0, 0)), ("depth one", (0, 1)),
                ("depth 1\n", (1, 0)), ("depth 1\narray", (1, 1)), ("depth 1\narray /", (1, 1)),
                ("depth 1\narray 1 /", (1, 3)), ("depth 1\narray 1 / /", (1, 3)), ("depth 1\narray 1/", (1, 1)),
                ("depth 1\narray 1", (2, 0)), ("depth 1\nstatement", (1, 0)), ("depth 1\narray 1\narray 2", (3, 0)),
                ("depth 1\narray 1\nread 0 0", (2, 0)), ("depth 1\narray 1\nstatement", (3, 0)),
                ("depth 1\narray 1\nstatement 1", (2, 1)), ("depth 1\narray 1\nstatement\nstatement", (3, 0)),
                ("depth 1\narray 1\nstatement\narray 1", (3, 0)), ("depth 1\narray 1\nstatement\nread", (3, 1)),
                ("depth 1\narray 1\nstatement\nread 0", (3, 2)), ("depth 1\narray 1\nstatement\nread 0 x", (3, 2)),
                ("depth 1\narray 1\nstatement\nread 0 0 /", (3, 3)),
                ("depth 1\narray 1\nstatement\nread 0 0\n", (4, 0)),
                ("depth 1\narray 1\nstatement\nread 0 0\narray 1", (4, 0)),
                ("depth 1\narray 1\nstatement\nread 0 0\nstatement", (5, 0)),
                ("depth 1\narray 1\ndepth 1", (2, 0)), ("read 0 0", (0, 0)), ("depth 1\narray 1 x y\nz", (1, 2))):
            check_bad_text(self, told, read_program, text)
            self.assertEqual(first_wrong(PROGRAM_FORM, text), told)

    def test_texts_that_are_right_by_their_form_alone(self):
        for text, place in (
                (LINE_TEXT.replace("depth 1", "depth 4"), (0,)), (LINE_TEXT.replace("depth 1", "depth -1"), (0,)),
                (LINE_TEXT.replace("depth 1", "depth 0"), (0,)), (LINE_TEXT.replace("depth 1", "depth 2"), (1, 0)),
                (LINE_TEXT.replace("array 1", "array 5"), (1, 0)), (LINE_TEXT.replace("array 1", "array 1 1"), (1, 0)),
                (LINE_TEXT.replace("array 1", "array 1 / 1 / 1 / 1"), (1, 0)),
                (LINE_TEXT.replace("array 1", "array 1\n" * 4 + "array 1"), (1,)),
                (LINE_TEXT.replace("array 1", "array 1 / 2 3"), (1, 0)),
                (LINE_TEXT.replace("write 0", "write 1"), (2, 0, 0)),
                (LINE_TEXT.replace("write 0 0", "write 0 10"), (2, 0, 0)), (LINE_TEXT + " 0", (2, 0, 0)),
                (LINE_TEXT + "\nread 0 0" * 4, (2, 0)), (LINE_TEXT + "\nstatement\nread 0 0" * 4, (2,)),
                (LINE_TEXT + "\nread 0 5\nread -1 5", (2, 0, 2))):
            check_refused(self, BadProgram, "place", place, read_program, text)

    def test_numbers_of_31_figures_and_of_32(self):
        for sign in ("", "-"):
            text = LINE_TEXT.replace("depth 1", "depth " + sign + "1" * 31)
            check_refused(self, BadProgram, "place", (0,), read_program, text)
            check_bad_text(self, (0, 1), read_program, LINE_TEXT.replace("depth 1", "depth " + sign + "1" * 32))
            text = LINE_TEXT.replace("array 1", "array " + sign + "9" * 31)
            check_refused(self, BadProgram, "place", (1, 0), read_program, text)
            check_bad_text(self, (1, 1), read_program, LINE_TEXT.replace("array 1", "array " + sign + "9" * 32))
            check_refused(self, BadProgram, "place", (2, 0, 0), read_program, LINE_TEXT[:-1] + sign + "9" * 31)
            check_bad_text(self, (3, 2), read_program, LINE_TEXT[:-1] + sign + "9" * 32)

    def test_words_that_are_no_integers(self):
        for word in ("00", "-0", "+0", "+1", "01", "-01", "--1", "-", "1-", "0x1", "1.0", "1e0", "1_0", "", "a",
                     "\u0661", "\u00b2", "1\u0661", "1\r", "\t1"):
            for text, told in ((f"depth {word}", (0, 1)), (f"depth 1\narray {word}", (1, 1)),
                               (f"depth 1\narray 1 / {word}", (1, 3)),
                               (f"depth 1\narray 1\nstatement\nwrite {word} 0", (3, 1)),
                               (f"depth 1\narray 1\nstatement\nwrite 0 {word}", (3, 2))):
                check_bad_text(self, told, read_program, text)

    def test_texts_near_by(self):
        found = set()
        for text in (LINE_TEXT, program_text(SPACE), PLANE_TEXT):
            for near in changed(text):
                told = first_wrong(PROGRAM_FORM, near)
                found.add(told)
                if told is not None:
                    check_bad_text(self, told, read_program, near)
                else:
                    self.check_by_form(near)
        self.assertGreater(len(found), 60)
        self.assertIn(None, found)

    def check_by_form(self, text):
        told = told_program(text)
        try:
            need_program(told)
        except BadProgram as wrong:
            check_refused(self, BadProgram, "place", wrong.place, read_program, text)
        else:
            check_told(self, told, read_program, text)


class TestFormText(unittest.TestCase):
    def test_letter_by_letter(self):
        for form, text in (
                (form_of(0, (1, 0)), "0 / 1 0"), (form_of(12, (-5, 7)), "12 / -5 7"),
                (form_of(MOST, (SIXTY, -SIXTY)), f"{MOST} / {SIXTY} -{SIXTY}")):
            check_told(self, text, form_text, LINE, form)
        form = (3, (((1, 2), 0), ((0, -1), 10), ((2, 2), -3)))
        check_told(self, "3 / 1 2 0 / 0 -1 10 / 2 2 -3", form_text, PLANE, form)

    def test_wrong_arguments_in_their_order(self):
        for program in PROGRAMS:
            for thing in no_forms(program):
                check_refused(self, BadForm, "value", thing, form_text, program, thing)
        for thing, place in no_programs():
            check_refused(self, BadProgram, "place", place, form_text, thing, None)


class TestReadForm(unittest.TestCase):
    def test_what_was_written_is_read_back(self):
        for program in PROGRAMS + (TRIANGLE, GREATEST):
            for lot in lots_of(program):
                for form in finest(program, lot):
                    check_told(self, form, read_form, program, form_text(program, form))
        for form in (form_of(MOST, (MOST, -MOST)), form_of(0, (10 ** 31 - 1, 1 - 10 ** 31))):
            check_told(self, form, read_form, LINE, form_text(LINE, form))

    def test_what_is_no_string(self):
        for thing in (None, True, 0, b"0 / 1 0", ["0 / 1 0"], ("0 / 1 0",), (), {}, object(), nested(50)):
            check_bad_text(self, (None, None), read_form, LINE, thing)

    def test_where_a_word_can_not_stand(self):
        for text, told in (
                ("", (0, 0)), ("0", (0, 1)), ("0 ", (0, 1)), ("0 /", (0, 2)), ("0 / 1", (0, 3)), ("0 / 1 /", (0, 3)),
                ("0 / 1 0 /", (0, 5)), ("0 / 1 0 / 1", (0, 6)), ("0 / 1 0 /  1", (0, 5)), ("/ 1 0", (0, 0)),
                ("x / 1 0", (0, 0)), ("0 1 0", (0, 1)), ("0 / 1 x", (0, 3)), ("0 / x 1", (0, 2)), ("0 / 1 0\n", (1, 0)),
                ("0 / 1 0\n0 / 1 0", (1, 0)), ("0 / 1 0\nx\ny", (1, 0)), ("0 / 1\n", (0, 3)), ("0 / 1 0 ", (0, 4)),
                ("0 / 1 0 / 1\n0", (0, 6)), ("\n0 / 1 0", (0, 0)), ("0 / / 1 0", (0, 2)), ("0 // 1 0", (0, 1))):
            check_bad_text(self, told, read_form, LINE, text)
            self.assertEqual(first_wrong(FORM_FORM, text), told)

    def test_texts_that_are_right_by_their_form_alone(self):
        for program, text in (
                (LINE, "1 / 1 0"), (LINE, "-2 / 1 0"), (LINE, f"{MOST + 1} / 1 0"), (LINE, "0 / 1 0 0"),
                (LINE, "0 / 1 0 / 1 0"), (PLANE, "0 / 1 0"), (PLANE, "0 / 1 0 / 1 0 / 1 0"),
                (PLANE, "0 / 1 0 0 / 1 0 0 / 1 0"), (LINE, "9999999999999999999999999999999 / 1 0")):
            check_refused(self, BadForm, "value", told_form(text), read_form, program, text)

    def test_numbers_of_31_figures_and_of_32(self):
        for sign in ("", "-"):
            for figures in (31, 32):
                number = sign + "7" * figures
                for text, place in ((f"0 / {number} 0", (0, 2)), (f"0 / 0 {number}", (0, 3))):
                    if figures == 31:
                        check_told(self, told_form(text), read_form, LINE, text)
                    else:
                        check_bad_text(self, place, read_form, LINE, text)
        check_bad_text(self, (0, 0), read_form, LINE, "1" * 32 + " / 0 0")
        # What is written may be greater than what is read.
        check_bad_text(self, (0, 2), read_form, LINE, form_text(LINE, form_of(0, (SIXTY, 0))))

    def test_texts_near_by(self):
        found = set()
        for program, text in ((LINE, "7 / 1 0"), (PLANE, "0 / 1 2 0 / 0 -1 10 / 2 2 -3")):
            for near in changed(text):
                told = first_wrong(FORM_FORM, near)
                found.add(told)
                if told is not None:
                    check_bad_text(self, told, read_form, program, near)
                else:
                    self.check_by_form(program, near)
        self.assertGreater(len(found), 12)
        self.assertIn(None, found)

    def check_by_form(self, program, text):
        form = told_form(text)
        try:
            form_text(program, form)
        except BadForm:
            check_refused(self, BadForm, "value", form, read_form, program, text)
        else:
            check_told(self, form, read_form, program, text)

    def test_wrong_arguments_in_their_order(self):
        for thing, place in no_programs():
            check_refused(self, BadProgram, "place", place, read_form, thing, None)
            check_refused(self, BadProgram, "place", place, read_form, thing, "x")
        check_bad_text(self, (0, 3), read_form, PLANE, "1 / 1")


class TestInterface(unittest.TestCase):
    def test_names_of_arguments(self):
        check_names(self, texts, {
            "program_text": ["program"],
            "form_text": ["program", "form"],
            "read_program": ["text"],
            "read_form": ["program", "text"],
        })

    def test_by_name(self):
        self.assertEqual(program_text(program=LINE), LINE_TEXT)
        self.assertEqual(form_text(form=form_of(2, (1, 0)), program=LINE), "2 / 1 0")
        self.assertEqual(read_program(text=LINE_TEXT), LINE)
        self.assertEqual(read_form(text="2 / 1 0", program=LINE), form_of(2, (1, 0)))


if __name__ == "__main__":
    unittest.main()

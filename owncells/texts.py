"""Texts of PROGRAMS and FORMS, written and read."""

from owncells.errors import BadText
from owncells.forms import need_form
from owncells.programs import KINDS, need_program

MOST_FIGURES = 31


def spaced(numbers):
    """Integers with spaces between."""
    return " ".join([str(number) for number in numbers])


def reference_text(reference):
    """The line of a reference."""
    array, offset, kind = reference
    return kind + " " + spaced((array,) + offset)


def program_text(program):
    """The text of a PROGRAM."""
    need_program(program)
    depth, arrays, statements = program
    lines = [f"depth {depth}"]
    for matrix in arrays:
        lines.append("array " + " / ".join([spaced(row) for row in matrix]))
    for references in statements:
        lines.append("statement")
        lines.extend([reference_text(reference) for reference in references])
    return "\n".join(lines)


def form_text(program, form):
    """The text of a FORM."""
    need_program(program)
    need_form(program, form)
    modulus, terms = form
    return " / ".join([str(modulus)] + [spaced(row + (shift,)) for row, shift in terms])


def is_whole(word):
    """Whether a word is an integer: a decimal one without a needless 0, not too long."""
    figures = word.removeprefix("-")
    if not figures.isascii() or not figures.isdigit() or len(figures) > MOST_FIGURES:
        return False
    return figures[0] != "0" or word == "0"


def read_wholes(words, line, start, least):
    """The integers from the word start on, so many at least, to the end of the line."""
    for spot in range(start, len(words)):
        if not is_whole(words[spot]):
            raise BadText(line, spot)
    if len(words) < start + least:
        raise BadText(line, len(words))
    return tuple([int(word) for word in words[start:]])


def read_rows(words, line, start, least):
    """A list of rows of integers, so many at least in each, from the word start on to the
    end of the line, with "/" between."""
    rows = [[]]
    for spot in range(start, len(words)):
        word = words[spot]
        if is_whole(word):
            rows[-1].append(int(word))
        elif word == "/" and len(rows[-1]) >= least:
            rows.append([])
        else:
            raise BadText(line, spot)
    if len(rows[-1]) < least:
        raise BadText(line, len(words))
    return [tuple(row) for row in rows]


def need_word(words, line, spot, those):
    """Raises BadText if the line ends ahead of a word, or it is none of those."""
    if spot >= len(words) or words[spot] not in those:
        raise BadText(line, spot)


def need_end(words, line, many):
    """Raises BadText if there are more words than so many."""
    if len(words) > many:
        raise BadText(line, many)


def read_reference(words, line):
    """The reference that a line tells."""
    need_word(words, line, 0, KINDS)
    numbers = read_wholes(words, line, 1, 2)
    return numbers[0], numbers[1:], words[0]


def read_lines(text):
    """A list of the lines of a text, each a list of words."""
    if not isinstance(text, str):
        raise BadText(None, None)
    return [line.split(" ") for line in text.split("\n")]


def read_depth(words):
    """The DEPTH that the first line tells."""
    need_word(words, 0, 0, ("depth",))
    depth = read_wholes(words[:2], 0, 1, 1)
    need_end(words, 0, 2)
    return depth[0]


def next_words(arrays, statements):
    """What a line behind those of these arrays and statements can begin with."""
    if not arrays:
        return ("array",)
    if not statements:
        return "array", "statement"
    if not statements[-1]:
        return KINDS
    return KINDS + ("statement",)


def read_program(text):
    """The PROGRAM that a text tells."""
    lines = read_lines(text)
    depth = read_depth(lines[0])
    arrays = []
    statements = []
    for line in range(1, len(lines)):
        words = lines[line]
        need_word(words, line, 0, next_words(arrays, statements))
        if words[0] == "array":
            arrays.append(tuple(read_rows(words, line, 1, 1)))
        elif words[0] == "statement":
            need_end(words, line, 1)
            statements.append([])
        else:
            statements[-1].append(read_reference(words, line))
    if not statements or not statements[-1]:
        raise BadText(len(lines), 0)
    return need_program((depth, tuple(arrays), tuple([tuple(references) for references in statements])))


def read_form(program, text):
    """The FORM of a PROGRAM that a text tells."""
    need_program(program)
    lines = read_lines(text)
    words = lines[0]
    modulus = read_wholes(words[:1], 0, 0, 1)
    need_word(words, 0, 1, ("/",))
    rows = read_rows(words, 0, 2, 2)
    if len(lines) > 1:
        raise BadText(1, 0)
    form = modulus[0], tuple([(row[:-1], row[-1]) for row in rows])
    need_form(program, form)
    return form

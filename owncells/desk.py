"""A desk: a live nest that answers lines."""

from owncells.errors import BadText, NestError, TooGreat
from owncells.hands import are_tied
from owncells.lattices import groups, ways_apart
from owncells.nest import Nest
from owncells.programs import written
from owncells.texts import (
    need_end, program_text, read_program, read_reference, read_wholes, spaced)


def parted(words):
    """A list of the lists of words between those that are "/"."""
    parts = [[]]
    for word in words:
        if word == "/":
            parts.append([])
        else:
            parts[-1].append(word)
    return parts


def say_put(nest, words):
    """put, and references with "/" between."""
    nest.put(tuple([read_reference(part, 0) for part in parted(words[1:])]))
    return "done"


def say_drop(nest, words):
    """drop N"""
    need_end(words, 0, 2)
    numbers = read_wholes(words, 0, 1, 1)
    nest.drop(numbers[0])
    return "done"


def say_offset(nest, words):
    """offset N R I .."""
    numbers = read_wholes(words, 0, 1, 2)
    nest.offset(numbers[0], numbers[1], numbers[2:])
    return "done"


def say_undo(nest, words):
    """undo"""
    need_end(words, 0, 1)
    nest.undo()
    return "done"


def say_program(nest, words):
    """program"""
    need_end(words, 0, 1)
    return program_text(nest.program).replace("\n", " ; ")


def say_statements(nest, words):
    """statements"""
    need_end(words, 0, 1)
    return str(len(nest.program[2]))


def say_written(nest, words):
    """written"""
    need_end(words, 0, 1)
    lot = written(nest.program)
    return spaced(lot) if lot else "none"


def say_hands(nest, words):
    """hands LOT"""
    many = nest.hands(read_wholes(words, 0, 1, 0))
    return "endless" if many is None else str(many)


def say_groups(nest, words):
    """groups LOT"""
    told = groups(nest.program, read_wholes(words, 0, 1, 0))
    return " / ".join([spaced(group) for group in told])


def say_ways(nest, words):
    """ways N LOT"""
    numbers = read_wholes(words, 0, 1, 1)
    free, factors = ways_apart(nest.program, numbers[1:], numbers[0])
    return spaced((free,) + factors)


def read_round(words):
    """The ROUND N I .., of which the PLACE may be none of a PROGRAM."""
    numbers = read_wholes(words, 0, 0, 1)
    return numbers[0], numbers[1:]


def say_tied(nest, words):
    """tied N I .. / M J .. / LOT"""
    parts = parted(words[1:])
    if len(parts) != 3:
        raise BadText(0, len(words))
    lot = read_wholes(parts[2], 0, 0, 0)
    tied = are_tied(nest.program, lot, read_round(parts[0]), read_round(parts[1]))
    return "yes" if tied else "apart"


ANSWERS = {
    "put": say_put, "drop": say_drop, "offset": say_offset, "undo": say_undo, "program": say_program,
    "statements": say_statements, "written": say_written, "hands": say_hands, "groups": say_groups,
    "ways": say_ways, "tied": say_tied,
}


class Desk:
    """A desk with a live nest."""

    def __init__(self, text):
        self._nest = Nest(read_program(text))

    @property
    def nest(self):
        """The very Nest that the lines change."""
        return self._nest

    def say(self, line):
        """The answer to a line; "no" to what is none, and to what is refused."""
        if not isinstance(line, str):
            return "no"
        words = line.split(" ")
        if words[0] not in ANSWERS:
            return "no"
        answer = ANSWERS[words[0]]
        try:
            return answer(self._nest, words)
        except (NestError, TooGreat):
            return "no"

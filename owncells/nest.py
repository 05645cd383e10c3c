"""A live nest: a PROGRAM that deeds change, and that can be taken back."""

from owncells.errors import BadNumber, BadReference, NothingLeft, TooGreat
from owncells.hands import hands_by
from owncells.lattices import ties
from owncells.programs import (
    MOST_OFFSET, MOST_THINGS, is_number, is_row, need_lot, need_program, need_statement, wrong_in_statement)

MOST_DEEDS = 300


class Nest:
    """A live nest. What it was before each deed that is not taken back is a tuple of
    PROGRAMS, which no deed changes, so that a copy or a trial has just to keep it."""

    def __init__(self, program):
        self._now = need_program(program)
        self._past = ()

    @property
    def program(self):
        """The PROGRAM as it is now."""
        return self._now

    def put(self, references):
        """Puts a statement behind the others."""
        depth, arrays, statements = self._now
        wrong = wrong_in_statement(references, arrays)
        if wrong is not None:
            raise BadReference(wrong)
        if len(statements) == MOST_THINGS:
            raise TooGreat(MOST_THINGS)
        self._do((depth, arrays, statements + (references,)))

    def drop(self, statement):
        """Drops a statement, if there are two or more."""
        depth, arrays, statements = self._now
        need_statement(self._now, statement)
        if len(statements) == 1:
            raise BadNumber(statement)
        self._do((depth, arrays, statements[:statement] + statements[statement + 1:]))

    def offset(self, statement, spot, offset):
        """Sets the OFFSET of a reference, perhaps as it was."""
        depth, arrays, statements = self._now
        need_statement(self._now, statement)
        references = statements[statement]
        if not is_number(spot, len(references)):
            raise BadNumber(spot)
        array, _, kind = references[spot]
        if not is_row(offset, len(arrays[array]), MOST_OFFSET):
            raise BadReference(())
        references = references[:spot] + ((array, offset, kind),) + references[spot + 1:]
        self._do((depth, arrays, statements[:statement] + (references,) + statements[statement + 1:]))

    def _do(self, program):
        """Does a deed that makes this PROGRAM of the one that is."""
        if len(self._past) == MOST_DEEDS:
            raise TooGreat(MOST_DEEDS)
        self._past = self._past + (self._now,)
        self._now = program

    def hands(self, lot):
        """How many hands there are of all groups, or None for endlessly many."""
        need_lot(self._now, lot)
        return hands_by(self._now, ties(self._now, lot))

    def __len__(self):
        """How many deeds were done and not taken back."""
        return len(self._past)

    def undo(self):
        """Takes back the last deed."""
        if len(self._past) == 0:
            raise NothingLeft()
        self._now = self._past[-1]
        self._past = self._past[:-1]

    def copy(self):
        """Another Nest that stands as this one, goes on by itself, and can be taken back as
        far."""
        other = Nest(self._now)
        other._past = self._past
        return other

    def __eq__(self, other):
        """Whether both are Nests with equal PROGRAMS."""
        return isinstance(other, Nest) and self._now == other._now

    def trial(self):
        """What one with statement takes: its block gets the nest, and what is done there to
        the nest is taken back when it ends."""
        return Trial(self)


class Trial:
    """A block of deeds that leaves a nest as it was when the block began."""

    def __init__(self, nest):
        self._nest = nest
        self._now = None
        self._past = ()

    def __enter__(self):
        nest = self._nest
        # Deeds that were done since the trial was made stay, so what counts is kept here.
        self._now = nest._now
        self._past = nest._past
        return nest

    def __exit__(self, kind, value, trace):
        nest = self._nest
        nest._now = self._now
        nest._past = self._past


def under(manager, deed):
    """What the deed returns of what the manager gives, called in a with statement over it."""
    with manager as one:
        return deed(one)

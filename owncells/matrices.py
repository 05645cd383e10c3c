"""Rows of integers: lattices of their sums, remainders beside these, and divisors.

Rows are *stepped* if the first integer of each that is not 0 is above 0 and its column
comes behind those of the rows ahead.
"""

from math import gcd


def plus(row, step, times):
    """The row, and so many times the step, together."""
    return tuple([part + times * by for part, by in zip(row, step)])


def first_column(row):
    """The column of the first integer that is not 0, of a row that has one."""
    column = 0
    while row[column] == 0:
        column += 1
    return column


def reduced(row, steps):
    """The row less multiples of stepped rows, so that at the column of each of them it
    has an integer from 0 to less than theirs: all 0 just if the row is a sum of them."""
    for step in steps:
        column = first_column(step)
        row = plus(row, step, -(row[column] // step[column]))
    return row


def gathered(rows, column):
    """A row with the greatest common divisor of the column (0 or above), and rows with 0
    in it; all together have the same sums of multiples as the rows."""
    lead = (0,) * len(rows[0])
    rest = []
    for row in rows:
        while row[column] != 0:
            lead, row = row, plus(lead, row, -(lead[column] // row[column]))
        rest.append(row)
    if lead[column] < 0:
        lead = tuple([-part for part in lead])
    return lead, rest


def hermite(rows):
    """The one tuple of stepped rows with the same sums of multiples as the rows, each
    reduced by those behind it."""
    if not rows:
        return ()
    stepped = []
    rest = list(rows)
    for column in range(len(rows[0])):
        lead, rest = gathered(rest, column)
        if lead[column] != 0:
            stepped.append(lead)
    steps = ()
    for row in reversed(stepped):
        steps = (reduced(row, steps),) + steps
    return steps


def transposed(rows):
    """The columns of the rows, as rows."""
    return tuple([tuple([row[column] for row in rows]) for column in range(len(rows[0]))])


def images(matrix):
    """Stepped rows: what the matrix makes of a place, and behind it this place. Their
    sums of multiples tell all places and what it makes of them."""
    columns = transposed(matrix)
    units = [tuple([int(at == own) for at in range(len(columns))]) for own in range(len(columns))]
    return hermite([column + unit for column, unit in zip(columns, units)])


def kernel(rows, many):
    """A list of places: all that a matrix of many rows with these images makes 0 of are
    the sums of their multiples."""
    return [row[many:] for row in rows if not any(row[:many])]


def solution(rows, wanted):
    """A place of which a matrix with these images makes what is wanted, or None."""
    many = len(wanted)
    rest = reduced(wanted + (0,) * (len(rows[0]) - many), rows)
    if any(rest[:many]):
        return None
    return tuple([-part for part in rest[many:]])


def is_diagonal(rows):
    """Whether each row has integers other than 0 only at the column of its own number."""
    return all([part == 0 for number, row in enumerate(rows)
                for column, part in enumerate(row) if column != number])


def divisors(rows):
    """A list of integers, each a divisor of the next one: beside stepped rows, sums go by
    remainders by these, and freely otherwise."""
    # Rows and columns have the same divisors. Each turn makes the integers at the front
    # divisors of what they were, so the turns end, with nothing beside them.
    while not is_diagonal(rows):
        rows = hermite(transposed(rows))
    parts = [row[number] for number, row in enumerate(rows)]
    for far in range(len(parts)):
        for near in range(far):
            common = gcd(parts[near], parts[far])
            parts[near], parts[far] = common, parts[near] * parts[far] // common
    return parts

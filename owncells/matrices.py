"""Rows of integers: lattices of their sums, remainders beside these, and divisors.

Rows are *stepped* if the first integer of each that is not 0 is above 0 and its column
comes behind those of the rows ahead.
"""

from math import gcd


def plus(row, step, times):
    """The row, and so many times the step, together."""
    return tuple([part + times * by for part, by in zip(row, step)])


def weighted(row, place):
    """The sum of the row's integers, each times that of the place."""
    return sum([factor * part for factor, part in zip(row, place)])


def multiplied(parts):
    """The product of integers; 1 of none."""
    product_of = 1
    for part in parts:
        product_of = product_of * part
    return product_of


def units(many):
    """So many rows, each with 1 at the column of its own number, and 0 elsewhere."""
    return tuple([tuple([int(column == number) for column in range(many)]) for number in range(many)])


def first_column(row):
    """The column of the first integer that is not 0, of a row that has one."""
    column = 0
    while row[column] == 0:
        column += 1
    return column


def reduced(row, steps):
    """The row less multiples of stepped rows, so that at the column of each of them it
    has an integer from 0 to less than theirs: all 0 just if the row is a sum of them."""
    for step in steps:
        column = first_column(step)
        row = plus(row, step, -(row[column] // step[column]))
    return row


def gathered(rows, column):
    """A row with the greatest common divisor of the column (0 or above), and rows with 0
    in it; all together have the same sums of multiples as the rows."""
    lead = (0,) * len(rows[0])
    rest = []
    for row in rows:
        while row[column] != 0:
            lead, row = row, plus(lead, row, -(lead[column] // row[column]))
        rest.append(row)
    if lead[column] < 0:
        lead = tuple([-part for part in lead])
    return lead, rest


def hermite(rows):
    """The one tuple of stepped rows with the same sums of multiples as the rows, each
    reduced by those behind it."""
    if not rows:
        return ()
    stepped = []
    rest = list(rows)
    for column in range(len(rows[0])):
        lead, rest = gathered(rest, column)
        if lead[column] != 0:
            stepped.append(lead)
    steps = ()
    for row in reversed(stepped):
        steps = (reduced(row, steps),) + steps
    return steps


def transposed(rows):
    """The columns of the rows, as rows."""
    return tuple([tuple([row[column] for row in rows]) for column in range(len(rows[0]))])


def tagged(rows):
    """Stepped rows: sums of multiples of the rows, and behind each how often each of the
    rows is taken in it. They tell all sums, and how these are made."""
    return hermite([row + unit for row, unit in zip(rows, units(len(rows)))])


def kernel(rows, many):
    """A list of all that stands behind the many integers of rows with only 0 among these.
    (Of tagged rows: how to take the rows so that there is nothing in all.)"""
    return [row[many:] for row in rows if not any(row[:many])]


def solution(rows, wanted, many):
    """How often to take each of many rows so that what is wanted comes out, by these rows
    as they are tagged; None if there is no way."""
    rest = reduced(wanted + (0,) * many, rows)
    if any(rest[:len(wanted)]):
        return None
    return tuple([-part for part in rest[len(wanted):]])


def agreeing(rows, weights, modulus):
    """Stepped rows: their sums are all sums of multiples of the rows that give 0 by the
    weights, or a multiple of the modulus, if that is not 0."""
    given = [(weighted(weights, row),) + row for row in rows]
    _, rest = gathered(given + [(modulus,) + (0,) * len(weights)], 0)
    return hermite([row[1:] for row in rest])


def is_diagonal(rows):
    """Whether each row has integers other than 0 only at the column of its own number."""
    return all([part == 0 for number, row in enumerate(rows)
                for column, part in enumerate(row) if column != number])


def coordinates(rows, many):
    """A list of pairs (FACTOR, WEIGHTS), one for each of many columns: the sums of stepped
    rows are all rows that give a multiple of FACTOR by WEIGHTS, for each pair. Rows of any
    integers give any integers by all WEIGHTS."""
    weights = units(many)
    # Each turn makes the integers at the front divisors of what they were, so the turns end.
    while not is_diagonal(rows):
        turned = hermite([row + by for row, by in zip(transposed(rows), weights)])
        weights = [row[len(rows):] for row in turned]
        rows = hermite(transposed([row[:len(rows)] for row in turned]))
    factors = [row[number] for number, row in enumerate(rows)] + [0] * (many - len(rows))
    return list(zip(factors, weights))


def divisors(factors):
    """A list of as many integers above 0, each a divisor of the next one, such that
    remainders by them go as those by the factors."""
    parts = list(factors)
    for far in range(len(parts)):
        for near in range(far):
            common = gcd(parts[near], parts[far])
            parts[near], parts[far] = common, parts[near] * parts[far] // common
    return parts

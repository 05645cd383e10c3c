"""Rows of integers: lattices of their sums, remainders beside these, and divisors.

Rows are *stepped* if the first integer of each that is not 0 is above 0 and its column
comes behind those of the rows ahead.
"""

from math import gcd


def plus(row, step, times):
    """The row, and so many times the step, together."""
    return tuple([part + times * by for part, by in zip(row, step)])


def less(row, step):
    """The row less the step."""
    return tuple([part - by for part, by in zip(row, step)])


def weighted(row, place):
    """The sum of the row's integers, each times that of the place."""
    return sum([factor * part for factor, part in zip(row, place)])


def remainder(whole, modulus):
    """The remainder of an integer by a modulus; all of it by 0."""
    if modulus == 0:
        return whole
    return whole % modulus


def multiplied(parts):
    """The product of integers; 1 of none."""
    product_of = 1
    for part in parts:
        product_of = product_of * part
    return product_of


def units(many):
    """So many rows, each with 1 at the column of its own number, and 0 elsewhere."""
    return tuple([(0,) * number + (1,) + (0,) * (many - 1 - number) for number in range(many)])


def reduced(row, steps):
    """The row less multiples of stepped rows, so that at the column of each of them it
    has an integer from 0 to less than theirs: all 0 just if the row is a sum of them."""
    column = 0
    for step in steps:
        # The columns of stepped rows ascend, so each is looked for behind that ahead.
        while step[column] == 0:
            column += 1
        times = row[column] // step[column]
        if times != 0:
            row = plus(row, step, -times)
    return row


def gathered(rows, column):
    """A row with the greatest common divisor of the column (or its negative; None if all
    have 0 there), and rows with 0 in it, not all 0; all together have the same sums of
    multiples as the rows."""
    lead = None
    rest = []
    for row in rows:
        if lead is None and row[column] != 0:
            lead = row
            continue
        while row[column] != 0:
            lead, row = row, plus(lead, row, -(lead[column] // row[column]))
        if any(row):
            rest.append(row)
    return lead, rest


def signed(row, column):
    """The row or its negative: the one with an integer above 0 in the column."""
    if row[column] > 0:
        return row
    return tuple([-part for part in row])


def hermite(rows):
    """The one tuple of stepped rows with the same sums of multiples as the rows, each
    reduced by those behind it."""
    stepped = []
    rest = rows
    column = 0
    while rest:
        lead, rest = gathered(rest, column)
        if lead is not None:
            stepped.append(signed(lead, column))
        column += 1
    steps = ()
    for row in reversed(stepped):
        steps = (reduced(row, steps),) + steps
    return steps


def transposed(rows):
    """The columns of the rows, as rows."""
    return list(zip(*rows))


def agreeing(rows, weights, modulus):
    """Stepped rows: their sums are all sums of multiples of the stepped rows that give 0 by
    the weights, or a multiple of the modulus, if that is not 0."""
    given = [remainder(weighted(weights, row), modulus) for row in rows]
    if not any(given):
        return rows
    led = [(part,) + row for part, row in zip(given, rows)]
    _, rest = gathered([(modulus,) + (0,) * len(weights)] + led, 0)
    return hermite([row[1:] for row in rest])


def is_diagonal(rows):
    """Whether each of stepped rows has just one integer, at the column of its own number."""
    for number, row in enumerate(rows):
        if any(row[number + 1:]):
            return False
    return True


def coordinates(rows, many):
    """A list of pairs (FACTOR, WEIGHTS), one for each of many columns: the sums of stepped
    rows are all rows that give a multiple of FACTOR by WEIGHTS, for each pair. Rows of any
    integers give any integers by all WEIGHTS."""
    weights = units(many)
    # Each turn makes the integers at the front divisors of what they were, so the turns end.
    while not is_diagonal(rows):
        turned = hermite([row + by for row, by in zip(transposed(rows), weights)])
        weights = [row[len(rows):] for row in turned]
        rows = hermite(transposed([row[:len(rows)] for row in turned]))
    factors = [row[number] for number, row in enumerate(rows)] + [0] * (many - len(rows))
    return list(zip(factors, weights))


def divisors(factors):
    """A list of as many integers above 0, each a divisor of the next one, such that
    remainders by them go as those by the factors."""
    parts = list(factors)
    for far in range(len(parts)):
        for near in range(far):
            common = gcd(parts[near], parts[far])
            parts[near], parts[far] = common, parts[near] * parts[far] // common
    return parts

"""FORMS told back: all of them that keep a LOT and give ROUNDS the NUMBERS that were seen."""

from owncells.errors import BadNumber, BadSeen, TooGreat
from owncells.lattices import joined, ties
from owncells.matrices import hermite, less, multiplied, units, weighted
from owncells.programs import is_between, is_number, is_round, is_tuple, need_lot, need_program

LEAST_MODULUS = 2
MOST_MODULUS = 5
MOST_SEEN = 20
MOST_FORMS = 500


def is_seen(program, modulus, thing):
    """Whether it is a pair of a ROUND and a remainder by the MODULUS."""
    return is_tuple(thing, 2) and is_round(program, thing[0]) and is_number(thing[1], modulus)


def need_seen(program, modulus, seen):
    """Raises BadSeen if it is no SEEN."""
    if not isinstance(seen, tuple) or len(seen) > MOST_SEEN:
        raise BadSeen(())
    for spot, pair in enumerate(seen):
        if not is_seen(program, modulus, pair):
            raise BadSeen((spot,))


def demands(parts, least, modulus, seen):
    """Stepped rows that tell the ROW of a group and the SHIFT of its least statement: of
    each row, its integers times those of ROW, times SHIFT and times 1 give the remainder 0."""
    leads, places, rings = parts
    rows = [ring + (0, 0) for ring in rings[least]]
    for (statement, place), wanted in seen:
        if leads[statement] == least:
            rows.append(less(place, places[statement]) + (1, -wanted))
    whole = [tuple([modulus * part for part in unit]) for unit in units(len(places[0]) + 2)]
    return hermite([tuple([part % modulus for part in row]) for row in rows] + whole)


def many_answers(rows, modulus):
    """How many tuples of remainders the rows tell, as demands made them."""
    # The last row tells what 1 alone has to give.
    if rows[-1][-1] != modulus:
        return 0
    # Each remainder that is left, behind others that do, goes with as many as its integer.
    return multiplied([row[column] for column, row in enumerate(rows[:-1])])


def answers(rows, modulus):
    """A list of all tuples of remainders that the rows tell: a ROW, and a SHIFT behind it."""
    found = [(1,)]
    for column in range(len(rows) - 2, -1, -1):
        row = rows[column][column:]
        found = [(part,) + known for known in found for part in range(modulus)
                 if weighted(row, (part,) + known) % modulus == 0]
    return [known[:-1] for known in found]


def all_answers(every, modulus):
    """A list of tuples: one of the answers for each rows of several, in each way."""
    found = [()]
    for rows in every:
        those = answers(rows, modulus)
        found = [known + (answer,) for known in found for answer in those]
    return found


def form_by(parts, firsts, told, modulus):
    """The FORM with the told answers for the groups with these least statements."""
    leads, places, _ = parts
    terms = []
    for least, place in zip(leads, places):
        answer = told[firsts.index(least)]
        row, shift = answer[:-1], answer[-1]
        terms.append((row, (shift - weighted(row, place)) % modulus))
    return modulus, tuple(terms)


def fitting(program, lot, modulus, seen):
    """The ascending tuple of all FORMS that fit SEEN."""
    need_program(program)
    need_lot(program, lot)
    if not is_between(modulus, LEAST_MODULUS, MOST_MODULUS):
        raise BadNumber(modulus)
    need_seen(program, modulus, seen)
    parts = joined(program, ties(program, lot))
    firsts = [statement for statement, least in enumerate(parts[0]) if statement == least]
    every = [demands(parts, least, modulus, seen) for least in firsts]
    many = multiplied([many_answers(rows, modulus) for rows in every])
    if many > MOST_FORMS:
        raise TooGreat(MOST_FORMS)
    # The answers of the other groups may be very many where one has none.
    if many == 0:
        return ()
    return tuple(sorted([form_by(parts, firsts, told, modulus) for told in all_answers(every, modulus)]))

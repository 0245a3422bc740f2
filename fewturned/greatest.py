"""The greatest shares, and parts of arrows as their paper that no shares that fit come to more.

They are found by the simplex way, in a table. It has a row for each arrow and a last one for the number that the
shares come to; a column for each ring's share, one for what is left of each arrow, and a last one for what the row
comes to. So as to reckon with whole numbers alone, all of the table is kept times one number, the down.
"""

from fewturned.errors import TooBig
from fewturned.fractions import fraction, is_at_most, is_fraction, times, together
from fewturned.rings import rings, rings_by, steps
from fewturned.shares import pairs_with
from fewturned.webs import checked

MOST_THINGS_FOR_GREATEST = 5


def ones(flags):
    return [1 if flag else 0 for flag in flags]


def first_table(web, cases, every):
    rows = []
    for arrow in web[1]:
        # A step by a case wants no share of the arrow.
        along = ones([arrow[:2] in steps(ring) and arrow[:2] not in cases for ring in every])
        own = ones([arrow == other for other in web[1]])
        rows.append(along + own + [arrow[2]])
    rows.append([-1 for ring in every] + [0 for arrow in web[1]] + [0])
    return rows


def column_to_take(table):
    # Of several the first one, as in row_to_leave: so no table comes back, and the steps end.
    for column, gain in enumerate(table[-1][:-1]):
        if gain < 0:
            return column
    return None


def row_to_leave(table, basis, column):
    # The row that first comes to 0 as the column grows. There is one: each ring wants a share of some arrow.
    best = None
    for place in sorted(range(len(basis)), key=lambda row: basis[row]):
        if table[place][column] > 0:
            if best is None or table[place][-1] * table[best][column] < table[best][-1] * table[place][column]:
                best = place
    return best


def stepped(table, place, column, down):
    # The chosen number is the next down. The division leaves no rest: times the down all of a table is whole.
    chosen = table[place]
    pivot = chosen[column]
    rows = []
    for row, line in enumerate(table):
        if row == place:
            rows.append(line)
        else:
            factor = line[column]
            rows.append([(one * pivot - factor * other) // down for one, other in zip(line, chosen)])
    return rows


def last_table(table, basis):
    """The table where no column makes the number greater, the column that each row stands for, and the down."""
    down = 1
    column = column_to_take(table)
    while column is not None:
        place = row_to_leave(table, basis, column)
        pivot = table[place][column]
        table = stepped(table, place, column, down)
        basis = basis[:place] + [column] + basis[place + 1:]
        down = pivot
        column = column_to_take(table)
    return (table, basis, down)


def shares_in(every, table, basis, down):
    found = []
    for column, ring in enumerate(every):
        if column in basis:
            share = table[basis.index(column)][-1]
            if share > 0:
                found.append((ring, fraction(share, down)))
    return found


def greatest_in(web, cases):
    """What `greatest` tells, where cases are taken, as for shares, such that no ring goes by cases alone."""
    every = rings_by(web[0], pairs_with(web, cases))
    first_basis = [len(every) + row for row in range(len(web[1]))]
    last = last_table(first_table(web, cases, every), first_basis)
    bottom = last[0][-1]
    down = last[2]
    found = [fraction(part, down) for part in bottom[len(every):-1]]
    return (fraction(bottom[-1], down), shares_in(every, last[0], last[1], down), found)


def greatest(web):
    checked(web)
    if web[0] > MOST_THINGS_FOR_GREATEST:
        raise TooBig("this web has too many things for the greatest shares")
    return greatest_in(web, {})


def is_part(thing):
    return is_fraction(thing) and thing[0] <= thing[1]


def are_parts(web, number, thing):
    checked(web)
    if not isinstance(thing, list) or len(thing) != len(web[1]) or not all([is_part(part) for part in thing]):
        return False
    part_of = {}
    for arrow, part in zip(web[1], thing):
        part_of[arrow[:2]] = part
    for ring in rings(web):
        if not is_at_most((1, 1), together([part_of[step] for step in steps(ring)])):
            return False
    total = together([times((arrow[2], 1), part_of[arrow[:2]]) for arrow in web[1]])
    return is_fraction(number) and total == number

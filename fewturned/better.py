"""Rows made better thing by thing."""

from fewturned.errors import NoNumber
from fewturned.webs import checked, checked_row, is_thing, weight


def put(row, thing, place):
    rest = [other for other in row if other != thing]
    return tuple(rest[:place] + [thing] + rest[place:])


def moves(row):
    # By things, then by places: of rows of one weight the first one is then that of the move that is to be taken.
    found = []
    for thing in range(len(row)):
        for place in range(len(row)):
            found.append(put(row, thing, place))
    return found


def lightest(web, row):
    return min(moves(row), key=lambda other: weight(web, other))


def moved(web, row, thing, place):
    checked(web)
    checked_row(web, row)
    # There are as many places as things: one ahead of each of the others, and one behind them all.
    if not is_thing(web[0], thing) or not is_thing(web[0], place):
        raise NoNumber("these are no thing and no place")
    return put(row, thing, place)


def is_settled(web, row):
    checked(web)
    checked_row(web, row)
    return weight(web, lightest(web, row)) == weight(web, row)


def better(web, row):
    told = [row]
    while not is_settled(web, told[-1]):
        told.append(lightest(web, told[-1]))
    return told

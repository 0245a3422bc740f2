"""Webs, rows, the arrows that a row turns, and webs made of other webs."""

from fewturned.errors import NoNumber, NoRow, NoWeb, TooBig
from fewturned.fractions import is_whole

MOST_THINGS = 7
MOST_WEIGHT = 99


def is_number(thing, least, most):
    return is_whole(thing) and least <= thing <= most


def is_thing(many, thing):
    return is_number(thing, 0, many - 1)


def is_arrow(many, thing):
    if not isinstance(thing, tuple) or len(thing) != 3:
        return False
    if not is_thing(many, thing[0]) or not is_thing(many, thing[1]):
        return False
    return thing[0] != thing[1] and is_number(thing[2], 1, MOST_WEIGHT)


def are_rising(arrows):
    # The weights are left out: two arrows that differ in weight alone have the same first two.
    return all([one[:2] < other[:2] for one, other in zip(arrows, arrows[1:])])


def is_web(thing):
    if not isinstance(thing, tuple) or len(thing) != 2:
        return False
    if not is_number(thing[0], 1, MOST_THINGS) or not isinstance(thing[1], tuple):
        return False
    return all([is_arrow(thing[0], arrow) for arrow in thing[1]]) and are_rising(thing[1])


def is_row(many, thing):
    if not isinstance(thing, tuple) or not all([is_thing(many, number) for number in thing]):
        return False
    return sorted(thing) == list(range(many))


def checked(web):
    if not is_web(web):
        raise NoWeb("this is no web")
    return web


def checked_row(web, row):
    if not is_row(web[0], row):
        raise NoRow("this is no row of all things of the web")
    return row


def loads(web):
    load_of = {}
    for arrow in web[1]:
        load_of[arrow[:2]] = arrow[2]
    return load_of


def turned(web, row):
    checked(web)
    checked_row(web, row)
    return [arrow for arrow in web[1] if row.index(arrow[0]) > row.index(arrow[1])]


def weight(web, row):
    return sum([arrow[2] for arrow in turned(web, row)])


def turned_about(web):
    checked(web)
    return (web[0], tuple(sorted([(behind, ahead, load) for ahead, behind, load in web[1]])))


def joined(one, other):
    checked(one)
    checked(other)
    shift = one[0]
    if shift + other[0] > MOST_THINGS:
        raise TooBig("joined, these webs have too many things")
    # All things of the second web come behind those of the first, so the arrows still rise.
    shifted = [(ahead + shift, behind + shift, load) for ahead, behind, load in other[1]]
    return (shift + other[0], one[1] + tuple(shifted))


def with_arrow(web, ahead, behind, more):
    checked(web)
    if not is_arrow(web[0], (ahead, behind, more)):
        raise NoNumber("these are no two unlike things and a weight")
    load = more
    arrows = []
    for arrow in web[1]:
        if arrow[:2] == (ahead, behind):
            load = load + arrow[2]
        else:
            arrows.append(arrow)
    if load > MOST_WEIGHT:
        raise TooBig("with this arrow the weight is too great")
    arrows.append((ahead, behind, load))
    return (web[0], tuple(sorted(arrows)))

"""The least weight of a web, and the rows that have it: the best ones."""

from fewturned.webs import checked, loads


def choices(many):
    # Each choice comes behind all those that lack one of its things: what is told of them is there by then.
    found = [()]
    for thing in range(many):
        found = found + [chosen + (thing,) for chosen in found]
    return found


def without(chosen, thing):
    return tuple([other for other in chosen if other != thing])


def turned_load(load_of, chosen, thing):
    # The thing stands ahead of all others of the choice: what leads from them to it is turned.
    return sum([load_of.get((other, thing), 0) for other in chosen])


def best_firsts(web):
    """For each choice of things the least weight of a row of these alone, and the things first in such a row.

    What stands ahead turns the same arrows in whatever order the things behind it stand,
    so rows of fewer things are told once for all rows that end with these things.
    """
    load_of = loads(web)
    told = {(): (0, [])}
    for chosen in choices(web[0])[1:]:
        weights = [told[without(chosen, thing)][0] + turned_load(load_of, chosen, thing) for thing in chosen]
        lightest = min(weights)
        firsts = [thing for thing, load in zip(chosen, weights) if load == lightest]
        told[chosen] = (lightest, firsts)
    return told


def least(web):
    checked(web)
    told = best_firsts(web)
    every = tuple(range(web[0]))
    row = []
    left = every
    while left:
        thing = min(told[left][1])
        row.append(thing)
        left = without(left, thing)
    return (told[every][0], tuple(row))


def count_best(web):
    checked(web)
    told = best_firsts(web)
    counts = {(): 1}
    for chosen in choices(web[0])[1:]:
        counts[chosen] = sum([counts[without(chosen, thing)] for thing in told[chosen][1]])
    return counts[tuple(range(web[0]))]


def ahead_somewhere(web):
    """The pairs (one, other) where one stands ahead of the other in some best row."""
    told = best_firsts(web)
    ahead = {}
    reached = {tuple(range(web[0])): True}
    # Turned round, each choice comes behind all those from which a best row may go on to it.
    for chosen in reversed(choices(web[0])):
        if chosen in reached:
            for thing in told[chosen][1]:
                rest = without(chosen, thing)
                reached[rest] = True
                for other in rest:
                    ahead[(thing, other)] = True
    return ahead


def sure(web):
    checked(web)
    ahead = ahead_somewhere(web)
    found = []
    for one in range(web[0]):
        for other in range(web[0]):
            # There is a best row: two unlike things, the second nowhere ahead, have the first ahead in all.
            if one != other and (other, one) not in ahead:
                found.append((one, other))
    return found

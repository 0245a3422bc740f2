"""Rings of arrows, and webs that have none.

Ways are what a ring may go by: pairs (one, other), or arrows, of which the weights are left out.
"""

from fewturned.webs import checked, is_thing


def followers(many, ways):
    following = [[] for thing in range(many)]
    for way in ways:
        following[way[0]].append(way[1])
    return following


def steps(path):
    return list(zip(path, path[1:] + path[:1]))


def goes_round(many, pairs, thing):
    """Whether a thing of any kind is a ring that goes by these pairs alone."""
    if not isinstance(thing, list) or not all([is_thing(many, number) for number in thing]):
        return False
    if len(thing) == 0 or len(set(thing)) != len(thing):
        return False
    return all([step in pairs for step in steps(thing)])


def shortest_from(following, first):
    # All paths of one length are tried ahead of any longer one: the first that closes is a shortest.
    reached = {}
    paths = [[first]]
    while paths:
        longer = []
        for path in paths:
            for thing in following[path[-1]]:
                if thing == first:
                    return path
                if thing not in reached:
                    reached[thing] = True
                    longer.append(path + [thing])
        paths = longer
    return None


def rings_from(following, path):
    # Only things above the first one are gone to, so each ring is found from its least thing alone.
    # Followers rise, and the first one is the least: a ring comes ahead of those that go on from it.
    found = []
    for thing in following[path[-1]]:
        if thing == path[0]:
            found.append(path)
        elif thing > path[0] and thing not in path:
            found.extend(rings_from(following, path + [thing]))
    return found


def ring(web):
    checked(web)
    following = followers(web[0], web[1])
    found = [shortest_from(following, first) for first in range(web[0])]
    return min([path for path in found if path is not None], key=len, default=None)


def rings_by(many, ways):
    """The rising list of all rings that go by these ways, which rise."""
    following = followers(many, ways)
    found = []
    for first in range(many):
        found.extend(rings_from(following, [first]))
    return found


def rings(web):
    checked(web)
    return rings_by(web[0], web[1])


def is_free(web):
    return ring(web) is None

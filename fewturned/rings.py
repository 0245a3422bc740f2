"""Rings of arrows, and webs that have none."""

from fewturned.webs import checked, is_thing, loads


def followers(web):
    following = [[] for thing in range(web[0])]
    for arrow in web[1]:
        following[arrow[0]].append(arrow[1])
    return following


def steps(path):
    return list(zip(path, path[1:] + path[:1]))


def is_ring(web, thing):
    if not isinstance(thing, list) or not all([is_thing(web[0], number) for number in thing]):
        return False
    if len(thing) == 0 or len(set(thing)) != len(thing):
        return False
    load_of = loads(web)
    return all([step in load_of for step in steps(thing)])


def shortest_from(following, first):
    # All paths of one length are tried ahead of any longer one: the first that closes is a shortest.
    reached = {}
    paths = [[first]]
    while paths:
        longer = []
        for path in paths:
            for thing in following[path[-1]]:
                if thing == first:
                    return path
                if thing not in reached:
                    reached[thing] = True
                    longer.append(path + [thing])
        paths = longer
    return None


def rings_from(following, path):
    # Only things above the first one are gone to, so each ring is found from its least thing alone.
    # Followers rise, and the first one is the least: a ring comes ahead of those that go on from it.
    found = []
    for thing in following[path[-1]]:
        if thing == path[0]:
            found.append(path)
        elif thing > path[0] and thing not in path:
            found.extend(rings_from(following, path + [thing]))
    return found


def ring(web):
    checked(web)
    following = followers(web)
    found = [shortest_from(following, first) for first in range(web[0])]
    return min([path for path in found if path is not None], key=len, default=None)


def rings(web):
    checked(web)
    following = followers(web)
    found = []
    for first in range(web[0]):
        found.extend(rings_from(following, [first]))
    return found


def is_free(web):
    return ring(web) is None

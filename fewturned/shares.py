"""Shares: rings that share the arrows, so that no row weighs less than all shares together."""

from fewturned.fractions import ZERO, is_above_zero, is_at_most, plus, together
from fewturned.rings import is_ring, rings, steps
from fewturned.webs import checked, loads


def is_share(web, thing):
    if not isinstance(thing, tuple) or len(thing) != 2:
        return False
    ring = thing[0]
    return is_ring(web, ring) and ring[0] == min(ring) and is_above_zero(thing[1])


def are_shares(web, thing):
    if not isinstance(thing, list) or not all([is_share(web, one) for one in thing]):
        return False
    return len(set([tuple(ring) for ring, share in thing])) == len(thing)


def taken(shares):
    """For each arrow that a ring goes along, what the shares of all such rings come to."""
    used = {}
    for ring, share in shares:
        for step in steps(ring):
            used[step] = plus(used.get(step, ZERO), share)
    return used


def fit(web, thing):
    checked(web)
    if not are_shares(web, thing):
        return False
    load_of = loads(web)
    return all([is_at_most(share, (load_of[step], 1)) for step, share in taken(thing).items()])


def whole_shares(web):
    checked(web)
    left = loads(web)
    told = []
    for ring in rings(web):
        # As much as is left of the scarcest arrow: behind this the ring has an arrow that is used up.
        share = min([left[step] for step in steps(ring)])
        if share > 0:
            told.append((ring, (share, 1)))
            for step in steps(ring):
                left[step] = left[step] - share
    return told


def come_to(shares):
    return together([share for ring, share in shares])

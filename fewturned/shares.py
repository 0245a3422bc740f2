"""Shares: rings that share the arrows, so that no row weighs less than all shares together.

Where cases are taken, a dict with the pairs (one, other) as keys where one stands ahead of the other, rings may go by
these too. No row in these cases turns such a step, so it wants no share of an arrow, even where there is one.
"""

from fewturned.fractions import ZERO, is_above_zero, is_at_most, plus, together
from fewturned.rings import goes_round, rings, steps
from fewturned.webs import checked, loads


def pairs_with(web, cases):
    """The rising list of the pairs that a ring may go by."""
    return sorted(set([arrow[:2] for arrow in web[1]] + list(cases)))


def is_share(many, pairs, thing):
    if not isinstance(thing, tuple) or len(thing) != 2:
        return False
    ring = thing[0]
    return goes_round(many, pairs, ring) and ring[0] == min(ring) and is_above_zero(thing[1])


def are_shares(many, pairs, thing):
    if not isinstance(thing, list) or not all([is_share(many, pairs, one) for one in thing]):
        return False
    return len(set([tuple(ring) for ring, share in thing])) == len(thing)


def wanted(shares, cases):
    """For each arrow of which a ring wants a share, what the shares of all such rings come to."""
    used = {}
    for ring, share in shares:
        for step in steps(ring):
            if step not in cases:
                used[step] = plus(used.get(step, ZERO), share)
    return used


def fit_in(web, cases, thing):
    if not are_shares(web[0], pairs_with(web, cases), thing):
        return False
    load_of = loads(web)
    return all([is_at_most(share, (load_of[step], 1)) for step, share in wanted(thing, cases).items()])


def fit(web, thing):
    checked(web)
    return fit_in(web, {}, thing)


def whole_shares(web):
    checked(web)
    left = loads(web)
    told = []
    for ring in rings(web):
        # As much as is left of the scarcest arrow: behind this the ring has an arrow that is used up.
        share = min([left[step] for step in steps(ring)])
        if share > 0:
            told.append((ring, (share, 1)))
            for step in steps(ring):
                left[step] = left[step] - share
    return told


def come_to(shares):
    return together([share for ring, share in shares])

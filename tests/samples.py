"""Webs, rows and wrong things that the tests share, and plain second ways to tell what is right."""

import fractions
import itertools
import math


def pairs(many):
    return [(a, b) for a in range(many) for b in range(many) if a != b]


def web_of(many, chosen):
    return (many, tuple((a, b, 1 + (a * 37 + b * 11) % 99) for a, b in chosen))


def full(many):
    return web_of(many, pairs(many))


def all_webs(many):
    every = pairs(many)
    for choice in range(2 ** len(every)):
        yield web_of(many, [pair for k, pair in enumerate(every) if choice >> k & 1])


def some_webs():
    """Webs of 1 to 7 things with no arrows, few, many and all, the same ones each time."""
    for many in range(1, 8):
        yield (many, ())
        every = pairs(many)
        for step in (2, 3, 5, 7):
            for start in range(step):
                yield web_of(many, every[start::step])
        yield web_of(many, [(a, b) for a, b in every if a < b])
        yield web_of(many, [(a, b) for a, b in every if a > b])
        yield web_of(many, [(a, b) for a, b in every if b == (a + 1) % many])
        yield full(many)


class Draws:
    """Numbers that look drawn by lot, the same ones each time and under every Python."""

    def __init__(self, start):
        self.state = start

    def below(self, top):
        self.state = (self.state * 6364136223846793005 + 1442695040888963407) % 2 ** 64
        return (self.state >> 33) % top


TOPS = (1, 3, 9, 99)


def drawn_web(draws, many, few, top):
    """A web where few of 10 arrows are there, with weights to the top."""
    chosen = [pair for pair in pairs(many) if draws.below(10) < few]
    return (many, tuple((a, b, 1 + draws.below(top)) for a, b in chosen))


def drawn_webs(most, each):
    """Webs of 1 things and more with no arrows, few and all, weights of 1 alone, to 3, to 9, to 99."""
    draws = Draws(17)
    for many in range(1, most + 1):
        yield (many, ())
        for top in TOPS:
            for few in (2, 4, 6, 10):
                for again in range(each):
                    yield drawn_web(draws, many, few, top)
        for load in (1, 99):
            yield (many, tuple((a, b, load) for a, b in pairs(many)))


def rows_of(many):
    return list(itertools.permutations(range(many)))


def some_rows(many):
    return rows_of(many)[::1 + many * many * many // 8]


def plain_turned(web, row):
    place = {thing: k for k, thing in enumerate(row)}
    return [(a, b, w) for a, b, w in web[1] if place[a] > place[b]]


def plain_weight(web, row):
    return sum(w for a, b, w in plain_turned(web, row))


def plain_best(web):
    """The least weight and all best rows in their order, by going through all rows one by one."""
    load = {(a, b): w for a, b, w in web[1]}
    least, best = None, []
    for row in itertools.permutations(range(web[0])):
        found = sum(load.get((late, early), 0) for early, late in itertools.combinations(row, 2))
        if least is None or found < least:
            least, best = found, []
        if found == least:
            best.append(row)
    return least, best


def plain_least(web):
    return min(plain_weight(web, row) for row in rows_of(web[0]))


def plain_rings(web):
    arrows = {(a, b) for a, b, w in web[1]}
    found = []
    for size in range(2, web[0] + 1):
        for path in itertools.permutations(range(web[0]), size):
            around = zip(path, path[1:] + path[:1])
            if path[0] == min(path) and all(step in arrows for step in around):
                found.append(list(path))
    return sorted(found)


def plain_is_free(web):
    left = set(range(web[0]))
    while True:
        led_to = {b for a, b, w in web[1] if a in left and b in left}
        if led_to == left:
            return not left
        left = led_to


def is_whole(thing):
    return type(thing) is int


def plain_is_web(thing):
    if type(thing) is not tuple or len(thing) != 2:
        return False
    many, arrows = thing
    if not is_whole(many) or many not in (1, 2, 3, 4, 5, 6, 7) or type(arrows) is not tuple:
        return False
    for arrow in arrows:
        if type(arrow) is not tuple or len(arrow) != 3 or not all(map(is_whole, arrow)):
            return False
        if tuple(arrow[:2]) not in pairs(many) or not 1 <= arrow[2] <= 99:
            return False
    ends = [arrow[:2] for arrow in arrows]
    return ends == sorted(set(ends))


def plain_is_row(many, thing):
    return type(thing) is tuple and all(map(is_whole, thing)) and thing in rows_of(many)


def plain_is_fraction(thing):
    if type(thing) is not tuple or len(thing) != 2 or not all(map(is_whole, thing)):
        return False
    return thing[0] >= 0 and thing[1] >= 1 and math.gcd(*thing) == 1


def plain_around(found):
    return list(zip(found, found[1:] + found[:1]))


def plain_are_shares(web, thing):
    if type(thing) is not list:
        return False
    every = plain_rings(web)
    seen = []
    for one in thing:
        if type(one) is not tuple or len(one) != 2:
            return False
        ring, share = one
        if type(ring) is not list or not all(map(is_whole, ring)) or ring not in every or ring in seen:
            return False
        if not plain_is_fraction(share) or share[0] == 0:
            return False
        seen.append(ring)
    return True


def plain_left(web, shares):
    """What the shares leave of each arrow, below 0 where they take too much."""
    left = {(a, b): fractions.Fraction(w) for a, b, w in web[1]}
    for ring, share in shares:
        for step in plain_around(ring):
            left[step] -= fractions.Fraction(*share)
    return left


def plain_fit(web, thing):
    return plain_are_shares(web, thing) and all(rest >= 0 for rest in plain_left(web, thing).values())


def plain_goes_round(many, pairs_to_go_by, thing):
    if type(thing) is not list or not thing or not all(is_whole(one) and one in range(many) for one in thing):
        return False
    return len(set(thing)) == len(thing) and all(step in pairs_to_go_by for step in plain_around(thing))


def plain_fit_in(web, cases, thing):
    """Whether shares fit whose rings may go by cases, pairs (one, other) where one stands ahead of the other."""
    if type(thing) is not list:
        return False
    left = {(a, b): fractions.Fraction(w) for a, b, w in web[1]}
    seen = []
    for one in thing:
        if type(one) is not tuple or len(one) != 2 or not plain_is_fraction(one[1]) or one[1][0] == 0:
            return False
        ring = one[0]
        if not plain_goes_round(web[0], set(left) | set(cases), ring) or ring[0] != min(ring) or ring in seen:
            return False
        seen.append(ring)
        for step in plain_around(ring):
            if step not in cases:
                left[step] -= fractions.Fraction(*one[1])
    return all(rest >= 0 for rest in left.values())


def plain_shows(web, number, thing, cases=()):
    if type(thing) is not tuple or not thing or type(thing[0]) is not str:
        return False
    if thing[0] == "shares" and len(thing) == 2 and plain_fit_in(web, cases, thing[1]):
        return sum(fractions.Fraction(*share) for ring, share in thing[1]) >= number
    if thing[0] == "closed" and len(thing) == 2:
        return plain_goes_round(web[0], cases, thing[1])
    if thing[0] != "case" or len(thing) != 5 or not all(map(is_whole, thing[1:3])) or thing[1:3] not in pairs(web[0]):
        return False
    one, other = thing[1:3]
    return (plain_shows(web, number, thing[3], cases + ((one, other),))
            and plain_shows(web, number, thing[4], cases + ((other, one),)))


def plain_sum(some):
    total = sum((fractions.Fraction(*one) for one in some), fractions.Fraction(0))
    return (total.numerator, total.denominator)


def plain_are_parts(web, number, thing):
    if type(thing) is not list or len(thing) != len(web[1]):
        return False
    if not all(plain_is_fraction(part) and part[0] <= part[1] for part in thing):
        return False
    part_of = {(a, b): fractions.Fraction(*part) for (a, b, w), part in zip(web[1], thing)}
    if any(sum(part_of[step] for step in plain_around(ring)) < 1 for ring in plain_rings(web)):
        return False
    return plain_is_fraction(number) and sum(w * part_of[(a, b)] for a, b, w in web[1]) == fractions.Fraction(*number)


def junk():
    """Things of any kind, made anew for each call so that no test spoils them for another."""
    itself = []
    itself.append(itself)
    return [
        None, True, False, -1, 0, 1, 2, 3, 7, 8, 99, 100, -(10 ** 5000), 10 ** 5000, 1.0, 0.5, 1j,
        float("nan"), float("inf"), "", "0", "a", "012", b"", b"012", bytearray(b"\0\1\2"),
        [], [0], [0, 1], [0, 1, 2], [0, 1, 1], [3, []], [3, ()], itself,
        {}, {0: 1}, {0: 0, 1: 1, 2: 2}, {3: ()}, set(), {0, 1, 2}, frozenset((0, 1, 2)), range(3),
        (), (0,), (1,), (0, 1), (0, 1, 2), (0, 1, 2, 3), (None, None), ((), ()), ((0, 1, 1),),
        object(), object, len, lambda web: web,
    ]


def spoiled(thing):
    """What comes of a tuple or a list, or of one within, by one wrong thing in, out, or in the place of one."""
    kind = type(thing)
    for k in range(len(thing) + 1):
        for wrong in junk():
            yield thing[:k] + kind([wrong]) + thing[k:]
            if k < len(thing):
                yield thing[:k] + kind([wrong]) + thing[k + 1:]
    for k, part in enumerate(thing):
        yield thing[:k] + thing[k + 1:]
        if isinstance(part, (tuple, list)):
            other = list if isinstance(part, tuple) else tuple
            yield thing[:k] + kind([other(part)]) + thing[k + 1:]
            yield thing[:k] + kind([dict(enumerate(part))]) + thing[k + 1:]
            for worse in spoiled(part):
                yield thing[:k] + kind([worse]) + thing[k + 1:]


RING_WEB = (3, ((0, 1, 5), (1, 2, 7), (2, 0, 3)))

# Shares that come to 5 halves, where no whole shares come to more than 2, and the least weight is 3.
HALVES_WEB = (6, ((0, 3, 1), (0, 5, 1), (1, 3, 1), (2, 5, 1), (3, 2, 1), (3, 4, 1), (4, 0, 1), (4, 1, 1), (4, 2, 1),
                  (5, 1, 1), (5, 4, 1)))
HALVES = [([0, 3, 4], (1, 2)), ([0, 5, 4], (1, 2)), ([1, 3, 2, 5], (1, 2)), ([1, 3, 4], (1, 2)), ([2, 5, 4], (1, 2))]

# Three arrows from 0, 1, 2 to 3, 4, 5, and back to all others: shares come to 3 halves, and the least weight is 2.
FENCE_WEB = (6, ((0, 3, 1), (1, 4, 1), (2, 5, 1), (3, 1, 1), (3, 2, 1), (4, 0, 1), (4, 2, 1), (5, 0, 1), (5, 1, 1)))

NAMED_WRONG_WEBS = [
    None, 3, "web", "", [3, ()], {3: ()}, [3, [(0, 1, 5)]], True, False,
    (), (3,), (3, (), ()), (3, ((0, 1, 5),), None),
    (0, ()), (8, ()), (-1, ()), (True, ()), (False, ()), (None, ()), ("3", ()), (3.0, ()), ((3,), ()), ([3], ()),
    (3, None), (3, 0), (3, ""), (3, "abc"), (3, []), (3, {}), (3, [(0, 1, 5)]), (3, {(0, 1, 5): True}), (3, (0, 1, 5)),
    (3, (None,)), (3, (5,)), (3, ("015",)), (3, ([0, 1, 5],)), (3, ({0: 1, 1: 2, 2: 3},)),
    (3, ((),)), (3, ((0,),)), (3, ((0, 1),)), (3, ((0, 1, 5, 5),)),
    (3, ((0, 0, 5),)), (3, ((2, 2, 5),)), (1, ((0, 0, 1),)),
    (3, ((-1, 0, 5),)), (3, ((0, -1, 5),)), (3, ((3, 0, 5),)), (3, ((0, 3, 5),)), (1, ((0, 1, 1),)), (7, ((0, 7, 1),)),
    (3, ((False, 1, 5),)), (3, ((0, True, 5),)), (3, ((True, 2, 5),)), (3, ((0, 1, True),)), (3, ((0, 1, False),)),
    (3, ((None, 1, 5),)), (3, (("0", 1, 5),)), (3, ((0, (1,), 5),)), (3, ((0, [1], 5),)), (3, ((0.0, 1, 5),)),
    (3, ((0, 1, 0),)), (3, ((0, 1, 100),)), (3, ((0, 1, -1),)), (3, ((0, 1, "5"),)), (3, ((0, 1, 5.0),)),
    (3, ((0, 1, None),)), (3, ((0, 1, (5,)),)),
    (3, ((1, 0, 5), (0, 1, 5))), (3, ((0, 2, 5), (0, 1, 5))), (3, ((0, 1, 5), (2, 0, 5), (1, 2, 5))),
    (3, ((0, 1, 5), (0, 1, 5))), (3, ((0, 1, 5), (0, 1, 6))), (3, ((0, 1, 6), (0, 1, 5))),
    (3, ((0, 1, 5), (1, 2, 5), (1, 2, 6))),
    (3, ((0, 1, 5), None)), (3, ((0, 1, 5), (1, 2))),
]

# Of webs of 3 things.
NAMED_WRONG_ROWS = [
    None, 0, 3, "012", "", True, [], [0, 1, 2], {}, {0: 0, 1: 1, 2: 2}, range(3),
    (), (0,), (0, 1), (1, 2), (0, 1, 2, 3), (0, 1, 2, 0), (0, 1, 2, 2),
    (0, 0, 1), (0, 1, 1), (2, 2, 2), (-1, 0, 1), (0, 1, 3), (1, 2, 3), (0, 1, -1),
    (False, 1, 2), (0, True, 2), (2, True, False), (0, 1, None), (0, 1, "2"), (0, 1, 2.0), (0, 1, (2,)), (0, 1, [2]),
    ((0, 1, 2),), ([0, 1, 2],), (0, {}, 2),
]


def wrong_webs():
    found = [thing for thing in junk() if not plain_is_web(thing)]
    found.extend(NAMED_WRONG_WEBS)
    found.extend(thing for thing in spoiled(RING_WEB) if not plain_is_web(thing))
    return found


def wrong_rows():
    found = [thing for thing in junk() if not plain_is_row(3, thing)]
    found.extend(NAMED_WRONG_ROWS)
    found.extend(thing for thing in spoiled((2, 0, 1)) if not plain_is_row(3, thing))
    return found


def kinds(thing):
    """A thing with the kinds of all within it, so that True is not taken for 1 nor a list for a tuple."""
    if isinstance(thing, (list, tuple)):
        return (type(thing).__name__, [kinds(part) for part in thing])
    return (type(thing).__name__, thing)


def refusal(call, *given):
    """The class of the error that a call ends with, None if it ends without one."""
    try:
        call(*given)
    except Exception as error:
        return type(error)
    return None

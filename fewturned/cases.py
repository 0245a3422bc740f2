"""Papers that no row weighs less than a number, by cases: trees of who stands ahead of whom, with shares at their ends.

The cases taken so far are a dict with the pairs (one, other) as keys where one stands ahead of the other.
"""

from fewturned.errors import NoNumber, TooBig
from fewturned.fractions import is_at_most, is_whole
from fewturned.greatest import greatest_in
from fewturned.least import least
from fewturned.rings import goes_round
from fewturned.shares import come_to, fit_in
from fewturned.webs import checked, is_thing

MOST_THINGS_FOR_PAPER = 6


def and_case(cases, one, other):
    more = dict(cases)
    more[(one, other)] = True
    return more


def split_arrow(web, arrow_parts):
    """The first arrow whose part is not whole.

    There is one where the parts come to less than the least weight: arrows with part 1 would else be such that, taken
    out, they leave no ring, and weigh no less than some row. As the parts come to as little as can be, an arrow has
    part 0 or 1 if by the cases taken it is told which of its things stands ahead, by one or by several together. So
    the cases never go round, and the tree ends.
    """
    return [arrow for arrow, part in zip(web[1], arrow_parts) if part[1] != 1][0]


def tree_from(web, number, cases):
    told = greatest_in(web, cases)
    if is_at_most((number, 1), told[0]):
        return ("shares", told[1])
    arrow = split_arrow(web, told[2])
    one = arrow[0]
    other = arrow[1]
    ahead = tree_from(web, number, and_case(cases, one, other))
    behind = tree_from(web, number, and_case(cases, other, one))
    return ("case", one, other, ahead, behind)


def paper(web):
    checked(web)
    if web[0] > MOST_THINGS_FOR_PAPER:
        raise TooBig("this web has too many things for a paper by cases")
    return tree_from(web, least(web)[0], {})


def is_called(thing, word, length):
    if not isinstance(thing, tuple) or len(thing) != length:
        return False
    return isinstance(thing[0], str) and thing[0] == word


def is_case(many, thing):
    if not is_called(thing, "case", 5):
        return False
    return is_thing(many, thing[1]) and is_thing(many, thing[2]) and thing[1] != thing[2]


def is_end(web, number, cases, thing):
    if is_called(thing, "shares", 2):
        return fit_in(web, cases, thing[1]) and is_at_most((number, 1), come_to(thing[1]))
    return is_called(thing, "closed", 2) and goes_round(web[0], cases, thing[1])


def shows(web, number, thing):
    checked(web)
    if not is_whole(number) or number < 0:
        raise NoNumber("this is no whole number from 0 on")
    # A loop, not calls within calls: a thing of any kind may be a tree deeper than calls may go.
    waiting = [(thing, {})]
    while waiting:
        pair = waiting.pop()
        tree = pair[0]
        cases = pair[1]
        if is_case(web[0], tree):
            waiting.append((tree[3], and_case(cases, tree[1], tree[2])))
            waiting.append((tree[4], and_case(cases, tree[2], tree[1])))
        elif not is_end(web, number, cases, tree):
            return False
    return True

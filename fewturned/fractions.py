"""Whole numbers, and fractions from 0 on: tuples (up, down) without a common divisor above 1."""

ZERO = (0, 1)


def is_whole(thing):
    # Python counts True and False among the whole numbers; here they are none.
    return isinstance(thing, int) and not isinstance(thing, bool)


def common_divisor(one, other):
    while other != 0:
        rest = one % other
        one = other
        other = rest
    return one


def is_fraction(thing):
    if not isinstance(thing, tuple) or len(thing) != 2:
        return False
    if not is_whole(thing[0]) or not is_whole(thing[1]):
        return False
    return thing[0] >= 0 and thing[1] > 0 and common_divisor(thing[0], thing[1]) == 1


def is_above_zero(thing):
    return is_fraction(thing) and thing[0] > 0


def fraction(up, down):
    divisor = common_divisor(up, down)
    return (up // divisor, down // divisor)


def plus(one, other):
    return fraction(one[0] * other[1] + other[0] * one[1], one[1] * other[1])


def times(one, other):
    return fraction(one[0] * other[0], one[1] * other[1])


def is_at_most(one, other):
    return one[0] * other[1] <= other[0] * one[1]


def together(addends):
    total = ZERO
    for addend in addends:
        total = plus(total, addend)
    return total

"""Whole numbers and exact ratios: tuples (top, bottom) in lowest terms."""

from math import gcd, lcm

from alreadytold.errors import BadRatio

ZERO = (0, 1)
ONE = (1, 1)


def is_whole(thing, low=None, high=None):
    """Tell whether a thing of any kind is a whole number from low to high (None: no limit)."""
    if not isinstance(thing, int) or isinstance(thing, bool):
        return False
    if low is not None and thing < low:
        return False
    return high is None or thing <= high


def is_ratio(thing):
    """Tell whether a thing of any kind is a ratio in lowest terms."""
    if not isinstance(thing, tuple) or len(thing) != 2:
        return False
    top, bottom = thing
    return is_whole(top) and is_whole(bottom, 1) and gcd(top, bottom) == 1


def make_ratio(top, bottom=1):
    """Return the ratio of two whole numbers in lowest terms."""
    if not is_whole(top):
        raise BadRatio("top")
    if not is_whole(bottom) or bottom == 0:
        raise BadRatio("bottom")
    common = gcd(top, bottom)
    if bottom < 0:
        common = -common
    return (top // common, bottom // common)


def plus(one, other):
    """Return the sum of two ratios."""
    (top, bottom), (top2, bottom2) = one, other
    common = gcd(bottom, bottom2)
    total = top * (bottom2 // common) + top2 * (bottom // common)
    # Only what both bottoms share can be cancelled, so the second gcd stays small.
    rest = gcd(total, common)
    return (total // rest, bottom // common * (bottom2 // rest))


def minus(one, other):
    """Return the first ratio less the second."""
    return plus(one, (-other[0], other[1]))


def times(one, other):
    """Return the product of two ratios."""
    (top, bottom), (top2, bottom2) = one, other
    # Each ratio is in lowest terms, so only crosswise pairs can be cancelled.
    left = gcd(top, bottom2)
    right = gcd(top2, bottom)
    return (top // left * (top2 // right), bottom // right * (bottom2 // left))


def over(one, other):
    """Return the first ratio divided by the second."""
    top, bottom = other
    if top == 0:
        raise BadRatio("zero")
    if top < 0:
        return times(one, (-bottom, -top))
    return times(one, (bottom, top))


def compare(one, other):
    """Return -1, 0 or 1 as the first ratio is less than, equal to or greater than the second."""
    left = one[0] * other[1]
    right = other[0] * one[1]
    if left < right:
        return -1
    return 1 if left > right else 0


def sum_of(ratios):
    """Return the sum of a sequence of ratios, 0 for an empty one."""
    # One common bottom for all needs a single cancelling at the end.
    bottom = 1
    for ratio in ratios:
        bottom = lcm(bottom, ratio[1])
    total = 0
    for ratio in ratios:
        total += ratio[0] * (bottom // ratio[1])
    return make_ratio(total, bottom)


def ratio_text(one):
    """Return the top, with "/" and the bottom behind it unless the bottom is 1."""
    top, bottom = one
    return str(top) if bottom == 1 else f"{top}/{bottom}"

"""Rows of ratios as whole numbers over one bottom, so that nothing is cancelled on the way."""

from math import gcd, lcm

from alreadytold.ratios import ZERO, make_ratio


def whole_parts(ratios):
    """Return the tops of ratios over their least common bottom, and this bottom."""
    bottom = 1
    for ratio in ratios:
        bottom = lcm(bottom, ratio[1])
    return [ratio[0] * (bottom // ratio[1]) for ratio in ratios], bottom


def mean_ratio(tops, bottom, ratios):
    """Return the mean of ratios by shares that are told as tops over one bottom."""
    parts, whole = whole_parts(ratios)
    return make_ratio(sum([top * part for top, part in zip(tops, parts)]), bottom * whole)


def whole_rows(ratio_rows):
    """Return for each row of ratios its bottom and the couples (number, top) of what is not 0."""
    rows = []
    for ratios in ratio_rows:
        tops, bottom = whole_parts(ratios)
        rows.append((bottom, [(number, top) for number, top in enumerate(tops) if top != 0]))
    return rows


def turned(tops, rows):
    """Return the tops of a row of shares after one turn, and the factor of their bottom."""
    factor = 1
    for top, (bottom, _) in zip(tops, rows):
        if top != 0:
            factor = lcm(factor, bottom)
    after = [0 for _ in rows]
    for top, (bottom, parts) in zip(tops, rows):
        if top != 0:
            scaled = top * (factor // bottom)
            for number, part in parts:
                after[number] += scaled * part
    return after, factor


def turned_back(tops, rows):
    """Return the tops of what each row gives on the average, and the factor of their bottom."""
    factor = 1
    for bottom, _ in rows:
        factor = lcm(factor, bottom)
    before = []
    for bottom, parts in rows:
        total = sum([part * tops[number] for number, part in parts])
        before.append(total * (factor // bottom))
    return before, factor


def lightened(tops, bottom, base):
    """Return tops and their bottom without what all of them share with the base."""
    common = gcd(bottom, base)
    for top in tops:
        if common == 1:
            return tops, bottom
        common = gcd(common, top)
    return [top // common for top in tops], bottom // common


def base_of(rows, bottom):
    """Return a number that all prime factors of the bottom and of the rows' bottoms divide."""
    base = bottom
    for row_bottom, _ in rows:
        base = lcm(base, row_bottom)
    return base


def cancelled(top, bottom, base):
    """Return the ratio of a top and a bottom all of whose prime factors divide the base."""
    if top == 0:
        return ZERO
    # The base is far shorter than the bottom after many turns, so these gcds are quick.
    part = gcd(top, base)
    rest = top // part
    extra = gcd(rest, part)
    while extra > 1:
        part = part * extra
        rest = rest // extra
        extra = gcd(rest, extra * extra)
    common = gcd(part, bottom)
    return (top // common, bottom // common)

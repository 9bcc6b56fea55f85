"""The table of the turning, and shares after some turns."""

from math import lcm

from alreadytold.charts import check_ins, check_post, posts_of
from alreadytold.errors import BadShares, BadTurns
from alreadytold.ratios import ONE, ZERO, is_ratio, is_whole, sum_of
from alreadytold.scaling import base_of, cancelled, lightened, turned, turned_back, whole_parts, whole_rows
from alreadytold.wires import count_fillings, filling_number, is_sequence
from alreadytold.working import worked

MOST_TURNS = 12


def _sent_shares(chart, ins, post):
    """Return the share of each post, by posts, with which a post sends it."""
    parts = {}
    for _, sent, share in worked(chart, ins, post):
        parts.setdefault(filling_number(chart.letter_sizes, sent), []).append(share)
    shares = [ZERO for _ in range(count_fillings(chart.letter_sizes))]
    for number in parts:
        shares[number] = sum_of(parts[number])
    return tuple(shares)


def turning_table(chart, ins):
    """Return the table of the turning: entry z of row y is the share with which y sends z."""
    ins = check_ins(chart, ins)
    return tuple([_sent_shares(chart, ins, post) for post in posts_of(chart)])


def wrong_shares(many, shares):
    """Return (index, word) for what is wrong with a row of so many shares of the sum 1, or None."""
    if not is_sequence(shares, many, many):
        return (0, "many")
    for index, share in enumerate(shares):
        if not is_ratio(share):
            return (index, "ratio")
        if share[0] < 0:
            return (index, "less")
    return (0, "sum") if sum_of(shares) != ONE else None


def check_shares(chart, shares):
    """Return shares of the posts as a tuple."""
    wrong = wrong_shares(count_fillings(chart.letter_sizes), shares)
    if wrong is not None:
        raise BadShares(wrong[0], wrong[1])
    return tuple(shares)


def _check_turns(turns, least):
    if not is_whole(turns, least, MOST_TURNS):
        raise BadTurns(turns)


def shares_after(chart, ins, shares, turns):
    """Return the shares after 0 to 12 turns."""
    ins = check_ins(chart, ins)
    tops, bottom = whole_parts(check_shares(chart, shares))
    _check_turns(turns, 0)
    rows = whole_rows(turning_table(chart, ins))
    base = base_of(rows, bottom)
    for _ in range(turns):
        tops, factor = turned(tops, rows)
        tops, bottom = lightened(tops, bottom * factor, factor)
    return tuple([cancelled(top, bottom, base) for top in tops])


def _summed(one, other):
    """Return the sums of two rows of tops, each over its bottom, and their bottom."""
    (tops, bottom), (tops2, bottom2) = one, other
    shared = lcm(bottom, bottom2)
    left = shared // bottom
    right = shared // bottom2
    return [top * left + top2 * right for top, top2 in zip(tops, tops2)], shared


def mean_shares_after(chart, ins, shares, turns):
    """Return the mean of the shares after 0, 1, .., turns - 1 turns."""
    ins = check_ins(chart, ins)
    tops, bottom = whole_parts(check_shares(chart, shares))
    _check_turns(turns, 1)
    rows = whole_rows(turning_table(chart, ins))
    base = lcm(base_of(rows, bottom), turns)
    sums = (tops, bottom)
    for _ in range(turns - 1):
        tops, factor = turned(tops, rows)
        tops, bottom = lightened(tops, bottom * factor, factor)
        sums = _summed(sums, (tops, bottom))
    return tuple([cancelled(total, sums[1] * turns, base) for total in sums[0]])


def bounds_after(chart, ins, post, turns):
    """Return the least and the greatest share that the post can have after 0 to 12 turns."""
    ins = check_ins(chart, ins)
    number = filling_number(chart.letter_sizes, check_post(chart, post))
    _check_turns(turns, 0)
    rows = whole_rows(turning_table(chart, ins))
    # The share of the post is a mean over beginnings in one post each, so these bound it.
    tops = [1 if place == number else 0 for place, _ in enumerate(rows)]
    bottom = 1
    base = base_of(rows, bottom)
    for _ in range(turns):
        tops, factor = turned_back(tops, rows)
        bottom = bottom * factor
    return (cancelled(min(tops), bottom, base), cancelled(max(tops), bottom, base))

"""Lost posts: at each turn the whole post may be lost, and a beginning comes in its place."""

from math import lcm

from alreadytold.charts import check_ins
from alreadytold.errors import BadSlip, BadTurns
from alreadytold.ratios import is_ratio, is_whole, make_ratio
from alreadytold.scaling import base_of, cancelled, whole_parts, whole_rows
from alreadytold.sizing import Bottoms
from alreadytold.solving import flows_among, leaking_answers
from alreadytold.turning import check_shares, turning_table
from alreadytold.wires import count_fillings

MOST_TURNS = 60


def even_shares(chart):
    """Return the same share for every post."""
    many = count_fillings(chart.letter_sizes)
    return tuple([(1, many) for _ in range(many)])


def check_slip(slip):
    """Return a slip: a ratio above 0 and at most 1."""
    if not is_ratio(slip) or not 0 < slip[0] <= slip[1]:
        raise BadSlip(slip)
    return slip


def beginnings_of(chart, beginnings):
    """Return beginnings as shares of the posts, even ones for None."""
    return even_shares(chart) if beginnings is None else check_shares(chart, beginnings)


def slipped_shares(table, slip, shares):
    """Return the slipped shares for a right table, slip and beginnings."""
    top, bottom = slip
    if top == bottom:
        return shares
    rows = whole_rows(table)
    begun, begun_bottom = whole_parts(shares)
    away, leaving = flows_among(rows, list(range(len(rows))))
    # A share of each post leaks by the slip; what does not slip leaves by its moves.
    kept = bottom - top
    slipping = [[kept * part for part in row] for row in away]
    lost = [kept * leaves + top * row_bottom for leaves, (row_bottom, _) in zip(leaving, rows)]
    answers, factor = leaking_answers(slipping, lost, [[top * number for number in begun]])[0]
    whole = begun_bottom * factor
    return tuple([make_ratio(answer * row_bottom, whole) for answer, (row_bottom, _) in zip(answers, rows)])


def slipped(chart, ins, slip, beginnings=None):
    """Return the only shares that stay if the whole post is lost with the share of the slip."""
    ins = check_ins(chart, ins)
    slip = check_slip(slip)
    shares = beginnings_of(chart, beginnings)
    return slipped_shares(turning_table(chart, ins), slip, shares)


def turns_sum(chart, ins, slip, turns, beginnings=None):
    """Return the slip times the sum of the shares after 0 to so many turns at which nothing slips."""
    ins = check_ins(chart, ins)
    top, bottom = check_slip(slip)
    if not is_whole(turns, 0, MOST_TURNS):
        raise BadTurns(turns)
    begun, whole = whole_parts(beginnings_of(chart, beginnings))
    rows = whole_rows(turning_table(chart, ins))
    base = lcm(base_of(rows, whole), bottom)
    tops = begun
    scale = 1
    bottoms = Bottoms(rows)
    # The sum is u + r (u + r (u + ..) M) M with r = 1 - slip: one turn of a row for each power.
    for _ in range(turns):
        after, factor = bottoms.one_turn(tops)
        scale = scale * factor * bottom
        tops = [number * scale + (bottom - top) * part for number, part in zip(begun, after)]
    return tuple([cancelled(top * (number // spare), whole * bottom * (scale // spare), base)
                  for number, spare in zip(tops, bottoms.spare_factors())])

"""Seldom slips: to which shares the slipped ones go as the slip goes to 0."""

from alreadytold.charts import check_ins, check_post
from alreadytold.errors import BadNear
from alreadytold.lots import closed_of, moves_of
from alreadytold.nearing import is_surely_near
from alreadytold.ratios import ZERO, compare, is_ratio, make_ratio, minus
from alreadytold.scaling import whole_parts, whole_rows
from alreadytold.slips import beginnings_of, slipped_shares
from alreadytold.solving import flows_among, leaking_answers, staying_numbers
from alreadytold.turning import turning_table
from alreadytold.visiting import arrivals_of, ends_of, outside_of, visits_of, weights_of
from alreadytold.wires import filling_number


def ends_in(chart, ins, post):
    """Return the shares with which a post ends in each ring."""
    ins = check_ins(chart, ins)
    number = filling_number(chart.letter_sizes, check_post(chart, post))
    table = turning_table(chart, ins)
    begun = [1 if place == number else 0 for place, _ in enumerate(table)]
    weights, factor = weights_of(whole_rows(table), closed_of(moves_of(table)), begun)
    return tuple([make_ratio(weight, factor) for weight in weights])


def ends_table(chart, ins):
    """Return for each post the shares with which it ends in each ring."""
    table = turning_table(chart, ins)
    ends, bottom = ends_of(whole_rows(table), closed_of(moves_of(table)))
    return tuple([tuple([make_ratio(top, bottom) for top in row]) for row in ends])


def ring_weights(chart, ins, beginnings=None):
    """Return for each ring the share of the beginnings that ends in it."""
    ins = check_ins(chart, ins)
    begun, bottom = whole_parts(beginnings_of(chart, beginnings))
    table = turning_table(chart, ins)
    weights, factor = weights_of(whole_rows(table), closed_of(moves_of(table)), begun)
    return tuple([make_ratio(weight, bottom * factor) for weight in weights])


def _seldom_shares(table, begun, bottom):
    """Return the seldom shares of a right table for beginnings of whole tops over one bottom."""
    rows = whole_rows(table)
    lots = closed_of(moves_of(table))
    weights, factor = weights_of(rows, lots, begun)
    shares = [ZERO for _ in table]
    for lot, weight in zip(lots, weights):
        if weight > 0:
            own = staying_numbers([rows[number] for number in lot], lot)
            whole = bottom * factor * sum(own)
            for number, part in zip(lot, own):
                shares[number] = make_ratio(weight * part, whole)
    return tuple(shares)


def seldom(chart, ins, beginnings=None):
    """Return the shares to which the slipped shares go as the slip goes to 0."""
    ins = check_ins(chart, ins)
    begun, bottom = whole_parts(beginnings_of(chart, beginnings))
    return _seldom_shares(turning_table(chart, ins), begun, bottom)


def _are_near(shares, goal, within):
    for share, other in zip(shares, goal):
        top, bottom = minus(share, other)
        if compare((abs(top), bottom), within) > 0:
            return False
    return True


def near_seldom(chart, ins, within, beginnings=None):
    """Return the first of 1, 2, 4, 8, .. at whose reciprocal no slipped share is further than within from seldom."""
    ins = check_ins(chart, ins)
    if not is_ratio(within) or within[0] < 1:
        raise BadNear(within)
    shares = beginnings_of(chart, beginnings)
    table = turning_table(chart, ins)
    rows = whole_rows(table)
    begun, bottom = whole_parts(shares)
    goal = _seldom_shares(table, begun, bottom)
    halvings = 0
    near = _are_near(shares, goal, within)
    while not near:
        halvings += 1
        near = is_surely_near(rows, shares, goal, halvings, within)
        if near is None:
            # Only the exact shares tell whether the nearness is just met.
            near = _are_near(slipped_shares(table, (1, 1 << halvings), shares), goal, within)
    return 1 << halvings


def _lean_of_lot(rows, lot, arrived, weight, later):
    """Return the tops of the lean of a ring, and what their common bottom has more than that of what arrived.

    arrived and weight are whole numbers over one bottom, later those of what comes late, over the same.
    """
    own = staying_numbers([rows[number] for number in lot], lot)
    total = sum(own)
    rest = lot[1:]
    away, leaving = flows_among([rows[number] for number in rest], rest)
    right = [arrived[number] * total - weight * part for number, part in zip(rest, own[1:])]
    answers, factor = leaking_answers(away, leaving, [right])[0]
    # The first post counts 0 so far; own shares are added until what comes late is made up for.
    lean_tops = [0] + [answer * rows[number][0] for answer, number in zip(answers, rest)]
    lack = -later * total * factor - sum(lean_tops)
    return [top * total + lack * part for top, part in zip(lean_tops, own)], total * total * factor


def lean(chart, ins, beginnings=None):
    """Return the row to which the slipped shares less the seldom ones, over the slip, go as the slip goes to 0."""
    ins = check_ins(chart, ins)
    begun, bottom = whole_parts(beginnings_of(chart, beginnings))
    table = turning_table(chart, ins)
    rows = whole_rows(table)
    lots = closed_of(moves_of(table))
    outside = outside_of(rows, lots)
    visits, factor = visits_of(rows, outside, begun)
    arrived = arrivals_of(rows, lots, outside, begun, visits, factor)
    waits = [0 for _ in rows]
    for number, visit in zip(outside, visits):
        waits[number] = visit * rows[number][0]
    later, late_factor = weights_of(rows, lots, waits)
    whole = bottom * factor * late_factor
    leans = [make_ratio(wait, bottom * factor) for wait in waits]
    for index, lot in enumerate(lots):
        arrivals = [number * late_factor for number in arrived]
        weight = sum([arrivals[number] for number in lot])
        tops, own_factor = _lean_of_lot(rows, lot, arrivals, weight, later[index])
        for number, top in zip(lot, tops):
            leans[number] = make_ratio(top, whole * own_factor)
    return tuple(leans)

"""Shares that stay: the rings' own shares and their mixtures."""

from alreadytold.charts import check_ins, posts_of
from alreadytold.errors import BadWeights, NotStaying
from alreadytold.lots import closed_of, moves_of
from alreadytold.ratios import ZERO, make_ratio, sum_of, times
from alreadytold.rings import check_every, lots_every, posts_numbered, ring_numbers
from alreadytold.scaling import turned, whole_parts, whole_rows
from alreadytold.tables import shares_of_lot
from alreadytold.turning import check_shares, turning_table, wrong_shares


def own_shares(chart, ins, ring):
    """Return the only shares that stay and are 0 outside the ring."""
    table = turning_table(chart, ins)
    return shares_of_lot(table, ring_numbers(chart, moves_of(table), ring))


def own_shares_every(chart, ins, turns):
    """Return for each lot of rings_every its only shares that so many turns do not change."""
    ins = check_ins(chart, ins)
    check_every(turns)
    table = turning_table(chart, ins)
    own = {}
    rows = []
    for lot, ring, many in lots_every(moves_of(table), turns):
        if ring not in own:
            own[ring] = shares_of_lot(table, ring)
        factor = make_ratio(many)
        rows.append(tuple([times(share, factor) if number in lot else ZERO
                           for number, share in enumerate(own[ring])]))
    return tuple(rows)


def _check_weights(many, weights):
    """Return weights, one for each ring, as a tuple."""
    wrong = wrong_shares(many, weights)
    if wrong is not None:
        raise BadWeights(wrong[0], wrong[1])
    return tuple(weights)


def mixed_shares(chart, ins, weights):
    """Return the sum of the rings' own shares, each times its weight."""
    table = turning_table(chart, ins)
    rings = closed_of(moves_of(table))
    weights = _check_weights(len(rings), weights)
    shares = [ZERO for _ in table]
    for ring, weight in zip(rings, weights):
        if weight != ZERO:
            own = shares_of_lot(table, ring)
            for number in ring:
                shares[number] = times(weight, own[number])
    return tuple(shares)


def _first_changed(table, shares):
    """Return the first number whose share one turn changes, None if all stay."""
    tops, _ = whole_parts(shares)
    after, factor = turned(tops, whole_rows(table))
    for number, top in enumerate(tops):
        if after[number] != top * factor:
            return number
    return None


def shares_stay(chart, ins, shares):
    """Tell whether one turn does not change the shares."""
    ins = check_ins(chart, ins)
    shares = check_shares(chart, shares)
    return _first_changed(turning_table(chart, ins), shares) is None


def mixture_of(chart, ins, shares):
    """Return the weights of the rings of which shares that stay are the mixture."""
    ins = check_ins(chart, ins)
    shares = check_shares(chart, shares)
    table = turning_table(chart, ins)
    number = _first_changed(table, shares)
    if number is not None:
        raise NotStaying(posts_of(chart)[number])
    return tuple([sum_of([shares[place] for place in ring]) for ring in closed_of(moves_of(table))])


def lasting_posts(chart, ins):
    """Return, ascending, the posts that are above 0 in some shares that stay: those of rings."""
    lots = closed_of(moves_of(turning_table(chart, ins)))
    return posts_numbered(chart, sorted([number for lot in lots for number in lot]))

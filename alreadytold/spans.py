"""The shares that outs can have over all shares that stay."""

from alreadytold.charts import check_ins, posts_of
from alreadytold.errors import BadOuts, BadShare, BadShares
from alreadytold.lots import closed_of, moves_of
from alreadytold.ratios import ONE, compare, is_ratio, minus, over, plus, sum_of, times
from alreadytold.rings import posts_numbered
from alreadytold.scaling import mean_ratio, whole_parts
from alreadytold.staying import shares_stay
from alreadytold.tables import shares_of_lot
from alreadytold.turning import check_shares, turning_table
from alreadytold.wires import is_filling
from alreadytold.working import worked, worths_at


class Span:
    """The least and the greatest share of some outs, and the first rings that give them."""

    def __init__(self, least, greatest, low, high):
        self.least = least
        self.greatest = greatest
        self.low = low
        self.high = high

    def __eq__(self, other):
        return (isinstance(other, Span) and self.least == other.least and self.greatest == other.greatest
                and self.low == other.low and self.high == other.high)


def outs_of(chart, ins, shares):
    """Return (outs, share) for all outs with a share above 0, ascending."""
    ins = check_ins(chart, ins)
    shares = check_shares(chart, shares)
    tops, bottom = whole_parts(shares)
    parts = {}
    for number, post in enumerate(posts_of(chart)):
        if tops[number] != 0:
            for filling, _, part in worked(chart, ins, post):
                outs = worths_at(chart, filling, chart.outs)
                parts.setdefault(outs, [[] for _ in shares])[number].append(part)
    # Of one post the parts are short, so they are summed up before the long shares of the posts come to them.
    return tuple([(outs, mean_ratio(tops, bottom, [sum_of(row) for row in parts[outs]])) for outs in sorted(parts)])


def _check_outs(chart, outs):
    """Return a filling of the outs as a tuple."""
    places = chart.places_of(chart.outs)
    if not is_filling([chart.wires[place][1] for place in places], outs):
        raise BadOuts(outs)
    return tuple(outs)


def _outs_shares(chart, ins, outs):
    """Return for each post the share with which it shows these outs."""
    shares = []
    for post in posts_of(chart):
        shares.append(sum_of([share for filling, _, share in worked(chart, ins, post)
                              if worths_at(chart, filling, chart.outs) == outs]))
    return shares


def _span_rows(chart, ins, outs):
    """Return (share of the outs, numbers of the ring, own shares) for each ring."""
    table = turning_table(chart, ins)
    shown = _outs_shares(chart, ins, outs)
    rows = []
    for lot in closed_of(moves_of(table)):
        own = shares_of_lot(table, lot)
        tops, bottom = whole_parts(own)
        rows.append((mean_ratio(tops, bottom, shown), lot, own))
    return rows


def _ends_of(rows):
    """Return the first row with the least share and the first one with the greatest."""
    low = rows[0]
    high = rows[0]
    for row in rows:
        if compare(row[0], low[0]) < 0:
            low = row
        if compare(row[0], high[0]) > 0:
            high = row
    return low, high


def span_of_outs(chart, ins, outs):
    """Return the span of the shares that these outs have over all shares that stay."""
    ins = check_ins(chart, ins)
    outs = _check_outs(chart, outs)
    low, high = _ends_of(_span_rows(chart, ins, outs))
    return Span(low[0], high[0], posts_numbered(chart, low[1]), posts_numbered(chart, high[1]))


def staying_with(chart, ins, outs, share):
    """Return any shares that stay at which the outs have just this share, None if there are none."""
    ins = check_ins(chart, ins)
    outs = _check_outs(chart, outs)
    if not is_ratio(share):
        raise BadShare(share)
    low, high = _ends_of(_span_rows(chart, ins, outs))
    if compare(share, low[0]) < 0 or compare(share, high[0]) > 0:
        return None
    if share == low[0]:
        return low[2]
    weight = over(minus(share, low[0]), minus(high[0], low[0]))
    rest = minus(ONE, weight)
    return tuple([plus(times(rest, less), times(weight, more)) for less, more in zip(low[2], high[2])])


def staying_fault(chart, ins, outs, share, shares):
    """Return None for shares that stay with this share of the outs, otherwise the first word."""
    ins = check_ins(chart, ins)
    outs = _check_outs(chart, outs)
    if not is_ratio(share):
        raise BadShare(share)
    try:
        shares = check_shares(chart, shares)
    except BadShares:
        return "shares"
    if not shares_stay(chart, ins, shares):
        return "stays"
    tops, bottom = whole_parts(shares)
    return None if mean_ratio(tops, bottom, _outs_shares(chart, ins, outs)) == share else "share"

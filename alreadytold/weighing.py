"""Weighed stories: each counts with the product of the shares with which the boxes make it."""

from math import lcm

from alreadytold.boxes import Box
from alreadytold.charts import Chart, all_ins, check_ins, place_of, posts_of
from alreadytold.errors import BadShares, BadTurns, NoFilling, NotIn
from alreadytold.ratios import ONE, ZERO, compare, is_whole, make_ratio, minus, over, sum_of, times
from alreadytold.scaling import base_of, cancelled, lightened, turned, whole_parts, whole_rows
from alreadytold.seldom import seldom
from alreadytold.spans import outs_of
from alreadytold.stories import all_stories
from alreadytold.turning import turning_table, wrong_shares
from alreadytold.wires import is_filling, is_sequence, sizes_of
from alreadytold.working import worths_at

MOST_TURNS = 12


class Nothing:
    """There are no weighed shares, for there is no story."""

    def __eq__(self, other):
        return isinstance(other, Nothing)


def _share_made(chart, step, filling):
    """Return the share with which a box makes its makes' worths of its takes' worths in a filling of all wires."""
    number, takes, makes = step
    row = tuple([filling[place] for place in makes])
    for made, share in chart.boxes[number].made_by([filling[place] for place in takes]):
        if made == row:
            return share
    return ZERO


def _weight(chart, filling):
    """Return the product over the boxes of the shares with which they make a filling of all wires."""
    weight = ONE
    for step in chart.steps:
        weight = times(weight, _share_made(chart, step, filling))
    return weight


def weight_of(chart, ins, filling):
    """Return the weight of a filling of all wires, 0 if its ins are other ones."""
    ins = check_ins(chart, ins)
    if not is_filling(sizes_of(chart.wires), filling):
        raise NoFilling(filling)
    return _weight(chart, filling) if worths_at(chart, filling, chart.ins) == ins else ZERO


def weight_sum(chart, ins):
    """Return the sum of the weights of all stories."""
    return sum_of([_weight(chart, filling) for filling in all_stories(chart, ins)])


def _turned_rows(begun, rows, turns):
    """Return the shares, told as (tops, bottom), after so many turns of each of those with which one begins."""
    after = []
    for tops, bottom in begun:
        for _ in range(turns):
            tops, factor = turned(tops, rows)
            tops, bottom = lightened(tops, bottom * factor, factor)
        after.append((tops, bottom))
    return after


def back_shares(chart, ins, turns):
    """Return for each post the share with which a beginning in it is in it again after 1 to 12 turns."""
    ins = check_ins(chart, ins)
    if not is_whole(turns, 1, MOST_TURNS):
        raise BadTurns(turns)
    rows = whole_rows(turning_table(chart, ins))
    base = base_of(rows, 1)
    begun = [([1 if other == number else 0 for other, _ in enumerate(rows)], 1) for number, _ in enumerate(rows)]
    # Half of the turns there and the other half back: so the numbers stay half as long.
    there = _turned_rows(begun, rows, turns // 2)
    back = _turned_rows(there, rows, turns % 2)
    back_bottom = 1
    for _, bottom in back:
        back_bottom = lcm(back_bottom, bottom)
    shares = []
    for number, (tops, bottom) in enumerate(there):
        total = 0
        for top, (back_tops, other_bottom) in zip(tops, back):
            total += top * back_tops[number] * (back_bottom // other_bottom)
        shares.append(cancelled(total, bottom * back_bottom, base))
    return tuple(shares)


def _shares_of_keys(keys, weights):
    """Return for each key the sum of its weights over the sum of all of them."""
    tops, _ = whole_parts(weights)
    parts = {}
    for key, top in zip(keys, tops):
        parts[key] = parts.get(key, 0) + top
    total = sum(tops)
    return {key: make_ratio(parts[key], total) for key in parts}


def weighed_posts(chart, ins):
    """Return the share of each post in the weighed stories."""
    stories = list(all_stories(chart, ins))
    if not stories:
        return Nothing()
    keys = [worths_at(chart, filling, chart.letters) for filling in stories]
    shares = _shares_of_keys(keys, [_weight(chart, filling) for filling in stories])
    return tuple([shares.get(post, ZERO) for post in posts_of(chart)])


def weighed_outs(chart, ins):
    """Return (outs, share) for all outs in the weighed stories, ascending."""
    stories = list(all_stories(chart, ins))
    if not stories:
        return Nothing()
    keys = [worths_at(chart, filling, chart.outs) for filling in stories]
    shares = _shares_of_keys(keys, [_weight(chart, filling) for filling in stories])
    return tuple([(outs, shares[outs]) for outs in sorted(shares)])


def weighed_worths(chart, ins, wire):
    """Return the share of each worth of the wire in the weighed stories."""
    ins = check_ins(chart, ins)
    place = place_of(chart, wire)
    stories = list(all_stories(chart, ins))
    if not stories:
        return Nothing()
    keys = [filling[place] for filling in stories]
    shares = _shares_of_keys(keys, [_weight(chart, filling) for filling in stories])
    return tuple([shares.get(worth, ZERO) for worth in range(chart.wires[place][1])])


def same_as_seldom(chart):
    """Return the first ins at which the outs' weighed shares are not their seldom ones, None if there are none."""
    for ins in all_ins(chart):
        weighed = weighed_outs(chart, ins)
        # There are no weighed shares for a quarrel, so they are not the seldom ones.
        if isinstance(weighed, Nothing) or weighed != outs_of(chart, ins, seldom(chart, ins)):
            return ins
    return None


def _check_shares(many, shares):
    wrong = wrong_shares(many, shares)
    if wrong is not None:
        raise BadShares(wrong[0], wrong[1])


def weighed_chart(shares):
    """Return a chart of one wire and one box whose weighed shares are 2 to 4 told ones."""
    if not is_sequence(shares, 2, 4):
        raise BadShares(0, "many")
    many = len(shares)
    _check_shares(many, shares)
    greatest = shares[0]
    for share in shares:
        if compare(share, greatest) > 0:
            greatest = share
    entries = []
    for worth, share in enumerate(shares):
        following = (worth + 1) % many
        kept = over(share, greatest)
        if kept == ONE:
            entries.append((worth,))
        elif kept == ZERO:
            entries.append((following,))
        else:
            entries.append([((worth,), kept), ((following,), minus(ONE, kept))])
    wire = ("y", many)
    return Chart([wire], [Box(0, [wire], [wire], entries)], ["y"])


def drawn_in(chart, wire, shares):
    """Return the chart with a box more, on day 0, which makes an in: each worth with its share."""
    name, size = chart.wires[place_of(chart, wire)]
    if name not in chart.ins:
        raise NotIn(name)
    _check_shares(size, shares)
    entry = [((worth,), share) for worth, share in enumerate(shares) if share != ZERO]
    return Chart(chart.wires, chart.boxes + (Box(0, [], [(name, size)], [entry]),), chart.outs)

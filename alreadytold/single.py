"""One letter at a time: at a slip a single letter of the post changes."""

from math import lcm

from alreadytold.charts import all_ins, check_ins, check_post, posts_of
from alreadytold.leading import lasting_terms
from alreadytold.lots import closed_of, marks_reached, moves_of
from alreadytold.ratios import ONE, make_ratio
from alreadytold.rings import moves_of_posts
from alreadytold.scaling import whole_rows
from alreadytold.seldom import seldom
from alreadytold.slips import check_slip
from alreadytold.solving import staying_numbers
from alreadytold.turning import turning_table
from alreadytold.visiting import ends_of
from alreadytold.wires import filling_number


def changes_of(chart, post):
    """Return all posts that come by giving one letter another worth, ascending."""
    post = check_post(chart, post)
    found = []
    for place, size in enumerate(chart.letter_sizes):
        for worth in range(size):
            if worth != post[place]:
                found.append(post[:place] + (worth,) + post[place + 1:])
    return tuple(sorted(found))


def changed_numbers(chart):
    """Return for each post the ascending numbers of the posts that come by one change."""
    return [[filling_number(chart.letter_sizes, changed) for changed in changes_of(chart, post)]
            for post in posts_of(chart)]


def _shares_from(numbers):
    total = sum(numbers)
    return tuple([make_ratio(number, total) for number in numbers])


def _slipped_row(row, changed, slip):
    """Return a row of whole_rows in which a change comes with the share of the slip."""
    bottom, parts = row
    top, slip_bottom = slip
    whole = lcm(bottom, len(changed))
    weights = {}
    for number, part in parts:
        if top < slip_bottom:
            weights[number] = (slip_bottom - top) * part * (whole // bottom)
    for number in changed:
        weights[number] = weights.get(number, 0) + top * (whole // len(changed))
    return whole * slip_bottom, [(number, weights[number]) for number in sorted(weights)]


def single_slipped(chart, ins, slip):
    """Return the only shares that stay if one letter changes with the share of the slip."""
    ins = check_ins(chart, ins)
    slip = check_slip(slip)
    changed = changed_numbers(chart)
    if not chart.letters:
        return (ONE,)
    rows = [_slipped_row(row, goals, slip) for row, goals in zip(whole_rows(turning_table(chart, ins)), changed)]
    return _shares_from(staying_numbers(rows, list(range(len(rows)))))


def _row_rates(number, row, changed):
    """Return the rates of a post: its turn of order 0 and its changes of order 1, and their bottom."""
    bottom, parts = row
    whole = lcm(bottom, len(changed))
    rates = [(goal, 0, part * (whole // bottom)) for goal, part in parts if goal != number]
    return rates + [(goal, 1, whole // len(changed)) for goal in changed], whole


def single(chart, ins):
    """Return the shares to which the shares of single_slipped go as the slip goes to 0."""
    ins = check_ins(chart, ins)
    if not chart.letters:
        return (ONE,)
    changed = changed_numbers(chart)
    rows = whole_rows(turning_table(chart, ins))
    told = [_row_rates(number, row, goals) for number, (row, goals) in enumerate(zip(rows, changed))]
    orders, numbers, _ = lasting_terms([rates for rates, _ in told])
    return _shares_from([number * whole if order == 0 else 0
                         for order, number, (_, whole) in zip(orders, numbers, told)])


def change_table(chart, ins):
    """Return for each couple of rings the share with which a change in the first one ends in the second."""
    table = turning_table(chart, ins)
    if not chart.letters:
        return ((ONE,),)
    rows = whole_rows(table)
    lots = closed_of(moves_of(table))
    changed = changed_numbers(chart)
    ends, bottom = ends_of(rows, lots)
    changes = []
    for lot in lots:
        own = staying_numbers([rows[number] for number in lot], lot)
        tops = [0 for _ in lots]
        for number, part in zip(lot, own):
            for goal in changed[number]:
                tops = [top + part * end for top, end in zip(tops, ends[goal])]
        whole = sum(own) * len(changed[0]) * bottom
        changes.append(tuple([make_ratio(top, whole) for top in tops]))
    return tuple(changes)


def apart_lots(chart, ins):
    """Return the closed lots of rings that one change never leaves, as numbers of rings."""
    moves = moves_of_posts(chart, ins)
    lots = closed_of(moves)
    marks = marks_reached(moves)
    changed = changed_numbers(chart)
    leads = []
    for lot in lots:
        reached = 0
        for number in lot:
            for goal in changed[number]:
                reached = reached | marks[goal]
        leads.append([other for other, goals in enumerate(lots) if (reached >> goals[0]) & 1])
    return closed_of(leads)


def differing_ins(chart):
    """Return all ins, ascending, at which the seldom shares and the single shares are not the same."""
    return tuple([ins for ins in all_ins(chart)
                  if len(closed_of(moves_of_posts(chart, ins))) > 1 and seldom(chart, ins) != single(chart, ins)])

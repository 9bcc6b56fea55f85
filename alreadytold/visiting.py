"""Where shares go that are in no ring yet: visits ahead of the rings, and the rings they end in.

All is told in whole numbers over common bottoms. The rows are those of whole_rows.
"""

from math import lcm

from alreadytold.solving import flows_among, leaking_answers


def outside_of(rows, lots):
    """Return, ascending, the numbers that are in none of the lots."""
    inside = [number for lot in lots for number in lot]
    return [number for number, _ in enumerate(rows) if number not in inside]


def lot_parts(rows, number, lots):
    """Return for each lot the whole part of a row that leads into it."""
    lead = {goal: part for goal, part in rows[number][1]}
    return [sum([lead.get(goal, 0) for goal in lot]) for lot in lots]


def visits_of(rows, outside, begun):
    """Return how often each number outside the lots comes, divided by the bottom of its row.

    begun has a whole number for each number of the table. The visits are told as tops for the
    numbers outside, in their order, and one bottom.
    """
    away, leaving = flows_among([rows[number] for number in outside], outside)
    return leaking_answers(away, leaving, [[begun[number] for number in outside]])[0]


def arrivals_of(rows, lots, outside, begun, visits, factor):
    """Return the whole numbers that end at each number of the lots, 0 outside them, all times the factor.

    visits and factor are those of visits_of for what begins.
    """
    arrived = [0 for _ in rows]
    for lot in lots:
        for number in lot:
            arrived[number] = begun[number] * factor
    for number, visit in zip(outside, visits):
        for goal, part in rows[number][1]:
            if goal not in outside:
                arrived[goal] += visit * part
    return arrived


def weights_of(rows, lots, begun):
    """Return for each lot the whole number that ends in it, all times a factor, and this factor."""
    outside = outside_of(rows, lots)
    visits, factor = visits_of(rows, outside, begun)
    arrived = arrivals_of(rows, lots, outside, begun, visits, factor)
    return [sum([arrived[number] for number in lot]) for lot in lots], factor


def ends_of(rows, lots):
    """Return for each number the tops of the shares with which it ends in each lot, and one bottom."""
    outside = outside_of(rows, lots)
    away, leaving = flows_among([rows[number] for number in outside], outside)
    # The share of a number is a mean of the shares of those it leads to: the moves turned about.
    back = [[row[place] for row in away] for place, _ in enumerate(outside)]
    parts = [lot_parts(rows, number, lots) for number in outside]
    goals = [[row[index] for row in parts] for index, _ in enumerate(lots)]
    answers = leaking_answers(back, leaving, goals)
    bottom = 1
    for _, own_bottom in answers:
        bottom = lcm(bottom, own_bottom)
    ends = [[0 for _ in lots] for _ in rows]
    for index, (lot, (tops, own_bottom)) in enumerate(zip(lots, answers)):
        for number in lot:
            ends[number][index] = bottom
        for number, top in zip(outside, tops):
            ends[number][index] = top * (bottom // own_bottom)
    return ends, bottom

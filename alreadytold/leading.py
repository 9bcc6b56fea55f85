"""What lasts when moves of a higher order are ever more seldom.

A rate (goal, order, weight) of a number tells a move whose share goes to 0 like weight * e ** order.
The share that each number has for ever goes to 0 like such a term, too: its order and a whole number
in the right proportions. All terms are above 0, so in sums only the least order counts, and nothing
cancels. Numbers that first of all come back to each other are joined to a lot, and lots to greater
lots, until one lot has all numbers.
"""

from math import gcd

from alreadytold.lots import closed_of
from alreadytold.solving import balanced_numbers


def _exit_of(lot, home, rates, orders, numbers):
    """Return the least order of the moves out of a lot, and their whole weights by the lots they lead to."""
    own = home[lot[0]]
    least = None
    weights = {}
    for number in lot:
        for goal, order, weight in rates[number]:
            if home[goal] != own:
                whole = orders[number] + order
                if least is None or whole < least:
                    least = whole
                    weights = {}
                if whole == least:
                    weights[home[goal]] = weights.get(home[goal], 0) + numbers[number] * weight
    return least, weights


def _homes_of(lots, many):
    """Return for each number the place of its lot."""
    home = [0 for _ in range(many)]
    for place, lot in enumerate(lots):
        for number in lot:
            home[number] = place
    return home


def _join(places, lots, leaving, orders, numbers):
    """Tell the orders and numbers of some lots as those of one, and return this lot."""
    away = [[leaving[place][1].get(other, 0) for other in places] for place in places]
    slowest = max([leaving[place][0] for place in places])
    joined = []
    for place, balanced in zip(places, balanced_numbers(away)):
        for number in lots[place]:
            # A lot that is left sooner has a share of a higher order.
            orders[number] += slowest - leaving[place][0]
            numbers[number] *= balanced
        joined.extend(lots[place])
    common = 0
    for number in joined:
        common = gcd(common, numbers[number])
    for number in joined:
        numbers[number] //= common
    return joined


def lasting_terms(rates):
    """Return the order and the whole number of what lasts for each number, and the cost of the least tree.

    The rates must lead from each number to each. The cost is the least sum of orders of a tree that
    leads all numbers to one; the trees of a number cost as much more as its order is above 0.
    """
    many = len(rates)
    lots = [[number] for number in range(many)]
    orders = [0 for _ in rates]
    numbers = [1 for _ in rates]
    cost = 0
    while len(lots) > 1:
        home = _homes_of(lots, many)
        leaving = [_exit_of(lot, home, rates, orders, numbers) for lot in lots]
        closed = closed_of([sorted(weights) for _, weights in leaving])
        inside = [place for places in closed for place in places]
        for places in closed:
            exits = [leaving[place][0] for place in places]
            cost += sum(exits) - max(exits)
        lots = ([_join(places, lots, leaving, orders, numbers) for places in closed]
                + [lot for place, lot in enumerate(lots) if place not in inside])
    return orders, numbers, cost

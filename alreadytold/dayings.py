"""The days of the boxes: stories do not hang on them, but which wires are letters does."""

from itertools import permutations

from alreadytold.boxes import LAST_DAY
from alreadytold.charts import Chart
from alreadytold.errors import BadDays
from alreadytold.ratios import is_whole
from alreadytold.wires import is_sequence


class Lettering:
    """A lot of the fewest letters, and the least days at which just these wires are letters."""

    def __init__(self, letters, days):
        self.letters = letters
        self.days = days

    def __eq__(self, other):
        return isinstance(other, Lettering) and self.letters == other.letters and self.days == other.days


def with_days(chart, days):
    """Return the chart with these days, one for each box."""
    many = len(chart.boxes)
    if not is_sequence(days, many, many) or [day for day in days if not is_whole(day, 0, LAST_DAY)] != []:
        raise BadDays(days)
    return Chart(chart.wires, [box.on_day(day) for box, day in zip(chart.boxes, days)], chart.outs)


def _links(chart):
    """Return (place, number of the maker, numbers of the boxes that take it) for each wire that is made and taken."""
    makers = {}
    takers = {}
    for number, takes, makes in chart.steps:
        for place in makes:
            makers[place] = number
        for place in takes:
            takers.setdefault(place, []).append(number)
    return [(place, makers[place], takers[place]) for place, _ in enumerate(chart.wires)
            if place in makers and place in takers]


def _early_places(links, order):
    """Return the places of the wires that are taken before they are made if the boxes are worked in this order."""
    ranks = {number: rank for rank, number in enumerate(order)}
    return [place for place, maker, takers in links if min([ranks[taker] for taker in takers]) <= ranks[maker]]


def _least_days(links, lot, many):
    """Return for each of many boxes how many wires outside the lot stand on the longest way to it."""
    days = [0 for _ in range(many)]
    # No way without wires of the lot passes a box twice, so as many rounds as boxes are enough.
    for _ in range(many):
        for place, maker, takers in links:
            for taker in takers:
                if place not in lot:
                    days[taker] = max(days[taker], days[maker] + 1)
    return tuple(days)


def fewest_letters(chart):
    """Return the first lot of the fewest wires that are letters on some days, and the least such days."""
    links = _links(chart)
    numbers = list(range(len(chart.boxes)))
    # Days without other letters can be told apart so that each box has a day of its own.
    lots = [_early_places(links, order) for order in permutations(numbers)]
    _, lot = min([(len(places), places) for places in lots])
    return Lettering(tuple([chart.wires[place][0] for place in lot]), _least_days(links, lot, len(numbers)))

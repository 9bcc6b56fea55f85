"""Charts told otherwise: other names, other worths, another order, later days."""

from alreadytold.boxes import Box
from alreadytold.charts import Chart, place_of
from alreadytold.errors import BadDays, BadNaming, BadOrder
from alreadytold.ratios import is_whole
from alreadytold.wires import filling_number, fillings_of, is_name, is_order, is_sequence

MOST_DAYS = 9


def _check_pairs(chart, pairs):
    """Return the new name of each wire that is named anew."""
    if not is_sequence(pairs, 0):
        raise BadNaming(0)
    olds = [name for name, _ in chart.wires]
    renamed = {}
    for index, pair in enumerate(pairs):
        if not is_sequence(pair, 2, 2) or not is_name(pair[0]) or not is_name(pair[1]):
            raise BadNaming(index)
        if pair[0] not in olds or pair[0] in renamed:
            raise BadNaming(index)
        renamed[pair[0]] = pair[1]
    if len(set([renamed.get(name, name) for name in olds])) < len(olds):
        raise BadNaming(len(pairs))
    return renamed


def _wires_renamed(wires, renamed):
    return [(renamed.get(name, name), size) for name, size in wires]


def renamed_chart(chart, pairs):
    """Return the chart with all names exchanged at once, by pairs (old name, new name)."""
    renamed = _check_pairs(chart, pairs)
    boxes = [Box(box.day, _wires_renamed(box.takes, renamed), _wires_renamed(box.makes, renamed), box.entries)
             for box in chart.boxes]
    outs = [renamed.get(name, name) for name in chart.outs]
    return Chart(_wires_renamed(chart.wires, renamed), boxes, outs)


def _check_order(order, many):
    """Refuse what does not tell each number below many just once."""
    if not is_order(order, many):
        raise BadOrder(order)


def _row_exchanged(wires, row, wire, order):
    """Return a row of worths of these wires with the worths of one wire called anew."""
    return tuple([order[worth] if other == wire else worth for other, worth in zip(wires, row)])


def _box_exchanged(box, wire, order):
    exchanged = [None for _ in box.entries]
    for filling in fillings_of(box.take_sizes):
        called = _row_exchanged(box.takes, filling, wire, order)
        exchanged[filling_number(box.take_sizes, called)] = [
            (_row_exchanged(box.makes, row, wire, order), share) for row, share in box.made_by(filling)]
    return Box(box.day, box.takes, box.makes, exchanged)


def exchanged_worths(chart, name, order):
    """Return the chart in which worth w of the wire is called order[w] everywhere."""
    wire = chart.wires[place_of(chart, name)]
    _check_order(order, wire[1])
    boxes = [_box_exchanged(box, wire, order) for box in chart.boxes]
    return Chart(chart.wires, boxes, chart.outs)


def ordered_chart(chart, order):
    """Return the chart with its wires in another order; order tells their old places."""
    _check_order(order, len(chart.wires))
    return Chart([chart.wires[place] for place in order], chart.boxes, chart.outs)


def later_chart(chart, days):
    """Return the chart with all boxes later by so many days."""
    if not is_whole(days, -MOST_DAYS, MOST_DAYS):
        raise BadDays(days)
    return Chart(chart.wires, [box.on_day(box.day + days) for box in chart.boxes], chart.outs)

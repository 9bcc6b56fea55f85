"""Surroundings of a chart: further boxes that share its ins and outs."""

from alreadytold.boxes import Box
from alreadytold.charts import Chart, all_ins, maker_of
from alreadytold.counts import Counts
from alreadytold.drawing import all_in, check_like_wires, wires_named
from alreadytold.errors import BadSurrounding
from alreadytold.stories import all_stories
from alreadytold.wires import LETTERS, fillings_of, sizes_of


class Parted:
    """The first couple of ins and outs with unlike counts, and both counts."""

    def __init__(self, ins, outs, many, others):
        self.ins = ins
        self.outs = outs
        self.many = many
        self.others = others

    def __eq__(self, other):
        return (isinstance(other, Parted) and self.ins == other.ins and self.outs == other.outs
                and self.many == other.many and self.others == other.others)


def check_surrounding(chart, around):
    """Return a surrounding of the chart, a chart of further boxes."""
    shown = wires_named(chart, chart.ins + chart.outs)
    names = [name for name, _ in shown]
    for wire in around.wires:
        name = wire[0]
        if name in names:
            if wire not in shown:
                raise BadSurrounding(name, "size")
            if name not in chart.ins and maker_of(around, name) is not None:
                raise BadSurrounding(name, "made")
    return around


def _chart_groups(counts, shared, kept):
    """Return, by the worths of the shared wires, how often each row of worths of the kept ins comes."""
    names = [name for name, _ in counts.ins + counts.outs]
    shared_places = [names.index(name) for name in shared]
    kept_places = [names.index(name) for name in kept]
    groups = {}
    for ins, outs, number in counts.rows:
        worths = ins + outs
        group = groups.setdefault(tuple([worths[place] for place in shared_places]), {})
        row = tuple([worths[place] for place in kept_places])
        group[row] = group.get(row, 0) + number
    return groups


def _around_groups(around, shared, own):
    """Return how often each couple of shared worths, and own ins and outs, comes in stories of the surrounding."""
    shared_places = around.places_of(shared)
    own_places = around.places_of(own)
    out_places = around.places_of(around.outs)
    groups = {}
    for ins in all_ins(around):
        for filling in all_stories(around, ins):
            key = (tuple([filling[place] for place in shared_places]),
                   tuple([filling[place] for place in own_places]),
                   tuple([filling[place] for place in out_places]))
            groups[key] = groups.get(key, 0) + 1
    return groups


def counts_around(chart, around):
    """Return the counts of a chart and a surrounding together."""
    around = check_surrounding(chart, around)
    outer = chart.ins + chart.outs
    shared = [name for name, _ in around.wires if name in outer]
    kept = [name for name in chart.ins if name not in shared or name in around.ins]
    own = [name for name in around.ins if name not in outer]
    chart_groups = _chart_groups(all_in(chart), shared, kept)
    around_groups = _around_groups(around, shared, own)
    table = {}
    for worths, ins, outs in around_groups:
        many = around_groups[(worths, ins, outs)]
        group = chart_groups.get(worths, {})
        for row in group:
            couple = (row + ins, outs)
            table[couple] = table.get(couple, 0) + many * group[row]
    rows = [(told, sent, table[(told, sent)]) for told, sent in sorted(table)]
    return Counts(wires_named(chart, kept) + wires_named(around, own), (), wires_named(around, around.outs), rows)


def number_around(chart, around):
    """Return the sum of all counts of a chart and a surrounding together."""
    return sum([number for _, _, number in counts_around(chart, around).rows])


def charts_alike(chart, other):
    """Return None for charts with the same counts, else where their counts first differ."""
    check_like_wires([("ins", wires_named(chart, chart.ins), wires_named(other, other.ins)),
                      ("outs", wires_named(chart, chart.outs), wires_named(other, other.outs))])
    table = {(ins, outs): number for ins, outs, number in all_in(chart).rows}
    table2 = {(ins, outs): number for ins, outs, number in all_in(other).rows}
    for ins, outs in sorted(list(table) + list(table2)):
        many = table.get((ins, outs), 0)
        others = table2.get((ins, outs), 0)
        if many != others:
            return Parted(ins, outs, many, others)
    return None


def free_names(taken, many):
    """Return so many names that are not taken."""
    return [letter for letter in LETTERS if letter not in taken][:many]


def parting_chart(chart, other):
    """Return a surrounding with which the two charts have unlike numbers, None if they are alike."""
    parted = charts_alike(chart, other)
    if parted is None:
        return None
    ins = wires_named(chart, chart.ins)
    asked = [(wire, worth) for wire, worth in zip(wires_named(chart, chart.outs), parted.outs) if wire not in ins]
    outs = [wire for wire, _ in asked]
    seen, kept = [(name, 2) for name in free_names(chart.ins + chart.outs, 2)]
    # All other outs are seen as 1, and then kept is turned over, which no story lets.
    worths = tuple([worth for _, worth in asked])
    sizes = sizes_of(outs)
    entries = [(0,) if filling == worths else (1,) for filling in fillings_of(sizes)]
    boxes = [Box(0, outs, [seen], entries), Box(1, [seen, kept], [kept], [(0,), (0,), (1,), (0,)])]
    if ins:
        boxes.append(Box(0, [], ins, [parted.ins]))
    return Chart(ins + tuple(outs) + (seen, kept), boxes, [])


def parting_fault(chart, other, around):
    """Return None for a surrounding that parts two charts, otherwise the first word that applies."""
    if not isinstance(around, Chart):
        # Charts that nothing parts have None in the place of a surrounding.
        return None if around is None and charts_alike(chart, other) is None else "surrounding"
    for judged in (chart, other):
        try:
            check_surrounding(judged, around)
        except BadSurrounding:
            return "surrounding"
    return "number" if number_around(chart, around) == number_around(other, around) else None

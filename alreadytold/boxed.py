"""Any chart told as one box, which keeps the turning and what the outs show."""

from alreadytold.boxes import MOST_FILLINGS, MOST_ROWS, MOST_WIRES, Box
from alreadytold.charts import Chart, all_ins, posts_of
from alreadytold.errors import NoBox
from alreadytold.ratios import sum_of
from alreadytold.wires import count_fillings
from alreadytold.working import worked, worths_at


def _other_outs(chart):
    """Return the names of the outs that are neither ins nor letters, in the order of the wires."""
    return tuple([name for name, _ in chart.wires
                  if name in chart.outs and name not in chart.ins and name not in chart.letters])


def _check_wires(chart, others):
    """Refuse more wires or fillings than one box can have."""
    if len(chart.ins) + len(chart.letters) > MOST_WIRES:
        raise NoBox("takes")
    if count_fillings(chart.in_sizes + chart.letter_sizes) > MOST_FILLINGS:
        raise NoBox("entries")
    if not 1 <= len(chart.letters) + len(others) <= MOST_WIRES:
        raise NoBox("makes")


def _joined_entry(chart, others, ins, post):
    """Return couples (row, share) of what comes at these ins and this post, each row once."""
    parts = {}
    for filling, sent, share in worked(chart, ins, post):
        row = sent + worths_at(chart, filling, others)
        parts.setdefault(row, []).append(share)
    if len(parts) > MOST_ROWS:
        raise NoBox("rows")
    return [(row, sum_of(parts[row])) for row in parts]


def boxed(chart):
    """Return a chart of one box on day 0 with the same outs and the same turning."""
    others = _other_outs(chart)
    _check_wires(chart, others)
    entries = [_joined_entry(chart, others, ins, post) for ins in all_ins(chart) for post in posts_of(chart)]
    sizes = {name: size for name, size in chart.wires}
    takes = [(name, sizes[name]) for name in chart.ins + chart.letters]
    makes = [(name, sizes[name]) for name in chart.letters + others]
    wires = [wire for wire in chart.wires if wire in takes or wire in makes]
    return Chart(wires, [Box(0, takes, makes, entries)], chart.outs)

"""Two charts as one."""

from alreadytold.charts import Chart


def joined_charts(chart, other):
    """Return both charts as one; wires of one name and size are one wire."""
    wires = chart.wires + tuple([wire for wire in other.wires if wire not in chart.wires])
    outs = chart.outs + tuple([name for name in other.outs if name not in chart.outs])
    return Chart(wires, chart.boxes + other.boxes, outs)

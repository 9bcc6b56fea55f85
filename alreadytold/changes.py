"""Edits of a chart: another entry, another day, another wire taken."""

from alreadytold.boxes import LAST_DAY, Box
from alreadytold.errors import BadBox, BadChart, BadEdits
from alreadytold.ratios import is_whole
from alreadytold.wires import is_filling, is_sequence

MOST_EDITS = 5
FORMS = (("entry", 4), ("day", 3), ("take", 4))


def _is_form(edit):
    """Tell whether a thing is a sequence with a word of an edit and of its length."""
    return is_sequence(edit, 1) and isinstance(edit[0], str) and (edit[0], len(edit)) in FORMS


def _entry_changed(box, index, filling, entry):
    """Return the box with the entry, and what tells the edit behind the number of the box."""
    if not is_filling(box.take_sizes, filling):
        raise BadEdits(index, "filling")
    try:
        changed = box.with_entry(filling, entry)
    except BadBox:
        raise BadEdits(index, "entry")
    return changed, (tuple(filling), changed.made_by(filling))


def _day_changed(box, index, day):
    """Return the box on the day, and what tells the edit behind the number of the box."""
    if not is_whole(day, 0, LAST_DAY):
        raise BadEdits(index, "day")
    return box.on_day(day), (day,)


def _take_changed(chart, box, index, wire, other):
    """Return the box with another wire taken, and what tells the edit behind the number of the box."""
    names = [name for name, _ in box.takes]
    if not isinstance(wire, str) or wire not in names:
        raise BadEdits(index, "wire")
    place = names.index(wire)
    fitting = [name for name, size in chart.wires if size == box.take_sizes[place] and name not in names]
    if not isinstance(other, str) or other not in fitting:
        raise BadEdits(index, "other")
    takes = list(box.takes)
    takes[place] = (other, box.take_sizes[place])
    return Box(box.day, takes, box.makes, box.entries), (wire, other)


def _with_edit(chart, index, edit):
    """Return the chart with an edit done, and the edit as tuples."""
    if not _is_form(edit):
        raise BadEdits(index, "edit")
    word, number = edit[0], edit[1]
    if not is_whole(number, 0, len(chart.boxes) - 1):
        raise BadEdits(index, "box")
    box = chart.boxes[number]
    if word == "entry":
        box, told = _entry_changed(box, index, edit[2], edit[3])
    elif word == "day":
        box, told = _day_changed(box, index, edit[2])
    else:
        box, told = _take_changed(chart, box, index, edit[2], edit[3])
    try:
        return chart.with_box(number, box), (word, number) + told
    except BadChart:
        raise BadEdits(index, "chart")


def edited_chart(chart, edits):
    """Return the chart with 0 to 5 edits done one after another."""
    if not is_sequence(edits, 0, MOST_EDITS):
        raise BadEdits(0, "many")
    for index, edit in enumerate(edits):
        chart, _ = _with_edit(chart, index, edit)
    return chart


def check_edits(chart, pool):
    """Return a pool of 1 to 5 edits, each of which can be done on the chart alone, as tuples."""
    if not is_sequence(pool, 1, MOST_EDITS):
        raise BadEdits(0, "many")
    told = []
    for index, edit in enumerate(pool):
        _, edit_told = _with_edit(chart, index, edit)
        told.append(edit_told)
    return tuple(told)

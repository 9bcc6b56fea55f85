"""Crowds: stories of a chart in which boxes may stand several times."""

from alreadytold.charts import check_ins, check_wire, maker_of
from alreadytold.errors import NotLeft, NotMade
from alreadytold.grounding import entries_within
from alreadytold.lefts import lefts_from
from alreadytold.ratios import is_whole
from alreadytold.wires import filling_by_number, is_filling, is_sequence


class Crowd:
    """Rows (number of a box, filling, row made, sources): copies of boxes that make what they take."""

    def __init__(self, rows):
        self.rows = rows

    def __eq__(self, other):
        return isinstance(other, Crowd) and self.rows == other.rows


def _check_made(chart, name):
    """Return the name of a wire that a box makes."""
    name = check_wire(chart, name)
    if maker_of(chart, name) is None:
        raise NotMade(name)
    return name


def _copy_making(chart, lefts, name, worth):
    """Return (number of the box, filling, row) for the first copy that makes the worth of left worths."""
    number, at = maker_of(chart, name)
    box = chart.boxes[number]
    options = [lefts[place] for place in chart.places_of([take for take, _ in box.takes])]
    for entry in entries_within(box.take_sizes, options):
        for row, _ in box.entries[entry]:
            if row[at] == worth:
                return number, filling_by_number(box.take_sizes, entry), row
    return None


def _takes_of(chart, number, filling):
    """Return (name, worth) for each take of a box at a filling."""
    return [(take, worth) for (take, _), worth in zip(chart.boxes[number].takes, filling)]


def _sources_of(chart, number, filling, index_of):
    """Return for each take of a box at a filling the index of the copy that makes it, None for an in."""
    return tuple([index_of.get(couple) for couple in _takes_of(chart, number, filling)])


def crowd_for(chart, ins, name, worth):
    """Return a crowd with a row that makes the wire with a left worth."""
    ins = check_ins(chart, ins, True)
    name = _check_made(chart, name)
    _, lefts = lefts_from(chart, ins)
    if not is_whole(worth) or worth not in lefts[chart.places_of([name])[0]]:
        raise NotLeft(worth)
    # One copy for each couple of a wire and a worth is enough, since copies may be shared.
    index_of = {(name, worth): 0}
    couples = [(name, worth)]
    copies = []
    while len(copies) < len(couples):
        made, made_worth = couples[len(copies)]
        copies.append(_copy_making(chart, lefts, made, made_worth))
        number, filling, _ = copies[-1]
        for couple in _takes_of(chart, number, filling):
            if couple[0] not in chart.ins and couple not in index_of:
                index_of[couple] = len(couples)
                couples.append(couple)
    return Crowd(tuple([(number, filling, row, _sources_of(chart, number, filling, index_of))
                        for number, filling, row in copies]))


def _is_row(chart, row, many):
    """Tell whether a thing is a row of a crowd of so many rows."""
    if not is_sequence(row, 4, 4) or not is_whole(row[0], 0, len(chart.boxes) - 1):
        return False
    box = chart.boxes[row[0]]
    if not is_filling(box.take_sizes, row[1]) or not is_filling(box.make_sizes, row[2]):
        return False
    if not is_sequence(row[3], len(box.takes), len(box.takes)):
        return False
    return [source for source in row[3] if source is not None and not is_whole(source, 0, many - 1)] == []


def _makes(chart, row, name, worth):
    """Tell whether a row of a crowd makes the wire with this worth."""
    made = [(make, other) for (make, _), other in zip(chart.boxes[row[0]].makes, row[2])]
    return (name, worth) in made


def _has_wrong_entry(chart, rows):
    for number, filling, made, _ in rows:
        if tuple(made) not in [row for row, _ in chart.boxes[number].made_by(filling)]:
            return True
    return False


def _has_wrong_source(chart, ins, rows):
    told = {name: worth for name, worth in zip(chart.ins, ins)}
    for number, filling, _, sources in rows:
        for (name, worth), source in zip(_takes_of(chart, number, filling), sources):
            if name in told:
                if source is not None or told[name] not in (None, worth):
                    return True
            elif source is None or not _makes(chart, rows[source], name, worth):
                return True
    return False


def crowd_fault(chart, ins, name, worth, crowd):
    """Return None for a crowd with a row that makes the wire with the worth, otherwise the first word."""
    ins = check_ins(chart, ins, True)
    name = _check_made(chart, name)
    rows = crowd.rows
    if not is_sequence(rows, 0) or [row for row in rows if not _is_row(chart, row, len(rows))] != []:
        return "row"
    if _has_wrong_entry(chart, rows):
        return "entry"
    if _has_wrong_source(chart, ins, rows):
        return "source"
    # True and False are equal to worths but are none.
    made = is_whole(worth) and [row for row in rows if _makes(chart, row, name, worth)] != []
    return None if made else "worth"

"""Counts of what is told and sent, whether a chart has them or not."""

from alreadytold.errors import BadCounts, NoFilling
from alreadytold.ratios import is_whole
from alreadytold.wires import is_filling, is_sequence, sizes_of, wires_told, wrong_wire

MOST_WIRES = 16


def _are_wires(thing):
    return is_sequence(thing, 0, MOST_WIRES) and wrong_wire(thing) is None


def _check_wires(ins, letters, outs):
    if not _are_wires(ins):
        raise BadCounts(0, "ins")
    if not _are_wires(letters):
        raise BadCounts(0, "letters")
    sizes = {name: size for name, size in ins}
    for name, size in letters:
        if name in sizes:
            raise BadCounts(0, "letters")
        sizes[name] = size
    if not _are_wires(outs):
        raise BadCounts(0, "outs")
    for name, size in outs:
        if sizes.get(name, size) != size:
            raise BadCounts(0, "outs")


def _is_row(told_sizes, sent_sizes, thing):
    if not is_sequence(thing, 3, 3) or not is_whole(thing[2], 1):
        return False
    return is_filling(told_sizes, thing[0]) and is_filling(sent_sizes, thing[1])


def _rows_told(told_sizes, sent_sizes, rows):
    """Return the rows as tuples; their couples (told, sent) ascend."""
    if not is_sequence(rows, 0):
        raise BadCounts(0, "rows")
    ready = []
    for index, row in enumerate(rows):
        if not _is_row(told_sizes, sent_sizes, row):
            raise BadCounts(index, "row")
        told, sent, number = tuple(row[0]), tuple(row[1]), row[2]
        if ready and (told, sent) <= ready[-1][:2]:
            raise BadCounts(index, "row")
        ready.append((told, sent, number))
    return tuple(ready)


class Counts:
    """How often each couple (told, sent) comes, in rows for those above 0.

    Beside what the document lists, `told_sizes` and `sent_sizes` keep the sizes of both.
    """

    def __init__(self, ins, letters, outs, rows):
        _check_wires(ins, letters, outs)
        self.ins = wires_told(ins)
        self.letters = wires_told(letters)
        self.outs = wires_told(outs)
        self.told_sizes = sizes_of(self.ins + self.letters)
        self.sent_sizes = sizes_of(self.outs + self.letters)
        self.rows = _rows_told(self.told_sizes, self.sent_sizes, rows)

    def __eq__(self, other):
        return (isinstance(other, Counts) and self.ins == other.ins and self.letters == other.letters
                and self.outs == other.outs and self.rows == other.rows)

    def number_at(self, told, sent):
        """Return the count of a couple, 0 if it has no row."""
        if not is_filling(self.told_sizes, told):
            raise NoFilling(told)
        if not is_filling(self.sent_sizes, sent):
            raise NoFilling(sent)
        couple = (tuple(told), tuple(sent))
        first, end = 0, len(self.rows)
        # The rows ascend, so each look halves what is left.
        while first < end:
            middle = (first + end) // 2
            if self.rows[middle][:2] < couple:
                first = middle + 1
            else:
                end = middle
        if first < len(self.rows) and self.rows[first][:2] == couple:
            return self.rows[first][2]
        return 0

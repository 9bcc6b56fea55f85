"""Boxes: what stands on a day, takes wires and makes wires."""

from alreadytold.errors import BadBox
from alreadytold.ratios import ONE, ZERO, compare, is_ratio, is_whole, sum_of
from alreadytold.wires import count_fillings, filling_number, is_filling, is_sequence, sizes_of, wires_told, wrong_wire

MOST_WIRES = 6
MOST_FILLINGS = 256
MOST_ROWS = 8
LAST_DAY = 9


def _check_wires(wires, word):
    place = wrong_wire(wires)
    if place is not None:
        raise BadBox(place, word)


def _check_takes(takes):
    if not is_sequence(takes, 0, MOST_WIRES):
        raise BadBox(0, "takes")
    _check_wires(takes, "take")
    if count_fillings(sizes_of(takes)) > MOST_FILLINGS:
        raise BadBox(0, "fillings")


def _check_makes(takes, makes):
    if not is_sequence(makes, 1, MOST_WIRES):
        raise BadBox(0, "makes")
    _check_wires(makes, "make")
    taken = {name: size for name, size in takes}
    for index, (name, size) in enumerate(makes):
        if taken.get(name, size) != size:
            raise BadBox(index, "make")


def _is_share_above_zero(thing):
    return is_ratio(thing) and compare(thing, ZERO) > 0 and compare(thing, ONE) <= 0


def _check_couples(make_sizes, index, couples):
    """Refuse what is no sequence of couples (row, share) with unlike rows."""
    if not is_sequence(couples, 1, MOST_ROWS):
        raise BadBox(index, "entry")
    rows = []
    for couple in couples:
        if not is_sequence(couple, 2, 2) or not is_filling(make_sizes, couple[0]):
            raise BadBox(index, "entry")
        row = tuple(couple[0])
        if row in rows or not _is_share_above_zero(couple[1]):
            raise BadBox(index, "entry")
        rows.append(row)


def _entry_told(make_sizes, index, entry):
    """Return an entry as couples (row, share), the rows ascending."""
    if is_sequence(entry, 1) and is_whole(entry[0]):
        if not is_filling(make_sizes, entry):
            raise BadBox(index, "entry")
        return ((tuple(entry), ONE),)
    _check_couples(make_sizes, index, entry)
    if sum_of([share for _, share in entry]) != ONE:
        raise BadBox(index, "shares")
    return tuple(sorted([(tuple(row), share) for row, share in entry]))


def _entries_told(takes, makes, entries):
    many = count_fillings(sizes_of(takes))
    if not is_sequence(entries, many, many):
        raise BadBox(0, "entries")
    make_sizes = sizes_of(makes)
    return tuple([_entry_told(make_sizes, index, entry) for index, entry in enumerate(entries)])


class Box:
    """A box on a day, with one entry for each filling of the wires that it takes."""

    def __init__(self, day, takes, makes, entries):
        if not is_whole(day, 0, LAST_DAY):
            raise BadBox(0, "day")
        _check_takes(takes)
        _check_makes(takes, makes)
        self.day = day
        self.takes = wires_told(takes)
        self.makes = wires_told(makes)
        self.take_sizes = sizes_of(self.takes)
        self.make_sizes = sizes_of(self.makes)
        self.entries = _entries_told(takes, makes, entries)

    def __eq__(self, other):
        return (isinstance(other, Box) and self.day == other.day and self.takes == other.takes
                and self.makes == other.makes and self.entries == other.entries)

    @property
    def is_sure(self):
        """Whether all entries are sure."""
        for entry in self.entries:
            if len(entry) > 1:
                return False
        return True

    def made_by(self, filling):
        """Return the entry for a filling of the takes."""
        return self.entries[filling_number(self.take_sizes, filling)]

    def with_entry(self, filling, entry):
        """Return a box with another entry for this filling of the takes."""
        number = filling_number(self.take_sizes, filling)
        entries = list(self.entries)
        entries[number] = entry
        return Box(self.day, self.takes, self.makes, entries)

    def on_day(self, day):
        """Return the box on another day."""
        return Box(day, self.takes, self.makes, self.entries)

"""Charts: houses of boxes on days, and the checks that all parts share."""

from alreadytold.boxes import Box
from alreadytold.errors import BadChart, BadIns, BadPost, ChanceBox, NoSuchBox, NoWire
from alreadytold.ratios import is_whole
from alreadytold.wires import count_fillings, fillings_of, is_sequence, wires_told, wrong_wire

MOST_WIRES = 16
MOST_BOXES = 6
MOST_OUTS = 6
MOST_FILLINGS = 64
MOST_ROWS = 64


def _check_wires(wires):
    if not is_sequence(wires, 1, MOST_WIRES):
        raise BadChart(0, "wires")
    place = wrong_wire(wires)
    if place is not None:
        raise BadChart(place, "wire")


def _check_boxes(wires, boxes):
    if not is_sequence(boxes, 1, MOST_BOXES):
        raise BadChart(0, "boxes")
    made = []
    for index, box in enumerate(boxes):
        if not isinstance(box, Box):
            raise BadChart(index, "box")
        for wire in box.takes + box.makes:
            if wire not in wires:
                raise BadChart(index, "name")
        for wire in box.makes:
            if wire in made:
                raise BadChart(index, "twice")
        made.extend(box.makes)


def _check_outs(wires, outs):
    if not is_sequence(outs, 0, MOST_OUTS):
        raise BadChart(0, "outs")
    free = [name for name, _ in wires]
    for index, name in enumerate(outs):
        if not isinstance(name, str) or name not in free:
            raise BadChart(index, "out")
        free.remove(name)


def _check_bounds(chart):
    """Refuse more fillings or rows than the document lets."""
    sizes = {name: size for name, size in chart.wires}
    rows = [("post", chart.letter_sizes), ("ins", chart.in_sizes),
            ("shown", [sizes[name] for name in chart.outs])]
    for word, told_sizes in rows:
        if count_fillings(told_sizes) > MOST_FILLINGS:
            raise BadChart(0, word)
    many = 1
    for box in chart.boxes:
        many = many * max([len(entry) for entry in box.entries])
    if many > MOST_ROWS:
        raise BadChart(0, "rows")


def _days_made(boxes):
    """Return the day of its maker for the name of each wire that is made."""
    days = {}
    for box in boxes:
        for name, _ in box.makes:
            days[name] = box.day
    return days


def _letter_names(wires, boxes):
    days = _days_made(boxes)
    early = {}
    for box in boxes:
        for name, _ in box.takes:
            if name in days and box.day <= days[name]:
                early[name] = True
    return tuple([name for name, _ in wires if name in early])


def _steps_of(wires, boxes):
    """Return (number of a box, places of its takes, places of its makes), day by day."""
    places = {wire[0]: place for place, wire in enumerate(wires)}
    days = sorted([(box.day, number) for number, box in enumerate(boxes)])
    steps = []
    for _, number in days:
        takes = tuple([places[name] for name, _ in boxes[number].takes])
        makes = tuple([places[name] for name, _ in boxes[number].makes])
        steps.append((number, takes, makes))
    return tuple(steps)


class Chart:
    """A house of boxes over wires, of which the outs are shown.

    Beside what the document lists, `steps` keeps the boxes day by day with the
    places of their wires, and `in_places` and `letter_places` those of the ins and letters.
    """

    def __init__(self, wires, boxes, outs):
        _check_wires(wires)
        self.wires = wires_told(wires)
        _check_boxes(self.wires, boxes)
        _check_outs(self.wires, outs)
        self.boxes = tuple(boxes)
        self.outs = tuple(outs)
        made = _days_made(self.boxes)
        self.ins = tuple([name for name, _ in self.wires if name not in made])
        self.letters = _letter_names(self.wires, self.boxes)
        self.in_places = self.places_of(self.ins)
        self.letter_places = self.places_of(self.letters)
        self.in_sizes = tuple([self.wires[place][1] for place in self.in_places])
        self.letter_sizes = tuple([self.wires[place][1] for place in self.letter_places])
        self.steps = _steps_of(self.wires, self.boxes)
        _check_bounds(self)

    def __eq__(self, other):
        return (isinstance(other, Chart) and self.wires == other.wires
                and self.boxes == other.boxes and self.outs == other.outs)

    @property
    def is_sure(self):
        """Whether all boxes are sure."""
        for box in self.boxes:
            if not box.is_sure:
                return False
        return True

    def places_of(self, names):
        """Return the places of the wires with these names, in the order of the names."""
        places = {wire[0]: place for place, wire in enumerate(self.wires)}
        return tuple([places[name] for name in names])

    def with_box(self, index, box):
        """Return a chart with another box in the place of one."""
        if not is_whole(index, 0, len(self.boxes) - 1):
            raise NoSuchBox(index)
        return Chart(self.wires, self.boxes[:index] + (box,) + self.boxes[index + 1:], self.outs)

    def with_day(self, index, day):
        """Return a chart with one box on another day."""
        if not is_whole(index, 0, len(self.boxes) - 1):
            raise NoSuchBox(index)
        return self.with_box(index, self.boxes[index].on_day(day))

    def with_outs(self, outs):
        """Return a chart with other outs."""
        return Chart(self.wires, self.boxes, outs)


def place_of(chart, name):
    """Return the place of a wire among the chart's wires."""
    if isinstance(name, str):
        for place, wire in enumerate(chart.wires):
            if wire[0] == name:
                return place
    raise NoWire(name)


def check_wire(chart, name):
    """Return the name of a wire of the chart."""
    return chart.wires[place_of(chart, name)][0]


def maker_of(chart, name):
    """Return the number of the box that makes the wire and the place among its makes, or None."""
    place = place_of(chart, name)
    for number, _, makes in chart.steps:
        if place in makes:
            return (number, makes.index(place))
    return None


def _wrong_place(sizes, row, unknown):
    """Return the first place of a row that lacks its worth or has a wrong one, or None."""
    if not is_sequence(row, 0):
        return 0
    for place, size in enumerate(sizes):
        if place == len(row):
            return place
        if not is_whole(row[place], 0, size - 1) and not (unknown and row[place] is None):
            return place
    return len(sizes) if len(row) > len(sizes) else None


def check_ins(chart, ins, unknown=False):
    """Return a row of worths of the ins as a tuple; None may stand there if unknown is True."""
    place = _wrong_place(chart.in_sizes, ins, unknown)
    if place is not None:
        raise BadIns(place)
    return tuple(ins)


def check_post(chart, post):
    """Return a row of worths of the letters as a tuple."""
    place = _wrong_place(chart.letter_sizes, post, False)
    if place is not None:
        raise BadPost(place)
    return tuple(post)


def check_sure(chart):
    """Refuse a chart with a chance box."""
    for index, box in enumerate(chart.boxes):
        if not box.is_sure:
            raise ChanceBox(index)


def posts_of(chart):
    """Return all posts, ascending."""
    return tuple(fillings_of(chart.letter_sizes))


def all_ins(chart):
    """Return all fillings of the ins, ascending."""
    return tuple(fillings_of(chart.in_sizes))

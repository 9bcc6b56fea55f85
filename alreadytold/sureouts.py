"""Which worths wires show in rings, and which wires are sure in all customs."""

from alreadytold.charts import all_ins, check_ins, check_wire, maker_of
from alreadytold.rings import rings_of
from alreadytold.tellings import Sure
from alreadytold.working import shown_rows


class Differ:
    """Two sightings (number of a ring, post, worth) of a wire with unlike worths."""

    def __init__(self, ring, post, worth, other_ring, other_post, other_worth):
        self.ring = ring
        self.post = post
        self.worth = worth
        self.other_ring = other_ring
        self.other_post = other_post
        self.other_worth = other_worth

    def __eq__(self, other):
        return (isinstance(other, Differ) and self.ring == other.ring and self.post == other.post
                and self.worth == other.worth and self.other_ring == other.other_ring
                and self.other_post == other.other_post and self.other_worth == other.other_worth)


def worths_shown(chart, ins, post, place):
    """Return, ascending, the worths that the wire at a place shows at right ins and a right post."""
    return sorted(set([filling[place] for filling, _ in shown_rows(chart, ins, post)]))


def ring_worths(chart, ins, name):
    """Return for each ring the ascending worths that the wire shows at its posts."""
    ins = check_ins(chart, ins)
    place = chart.places_of([check_wire(chart, name)])[0]
    rows = []
    for ring in rings_of(chart, ins):
        shown = [worth for post in ring for worth in worths_shown(chart, ins, post, place)]
        rows.append(tuple(sorted(set(shown))))
    return tuple(rows)


def _first_sightings(chart, ins, rings, place):
    """Return the first sighting and the first one with another worth, None if there is no other worth."""
    first = None
    for number, ring in enumerate(rings):
        for post in ring:
            for worth in worths_shown(chart, ins, post, place):
                if first is None:
                    first = (number, post, worth)
                elif worth != first[2]:
                    return first, (number, post, worth)
    return first, None


def sure_everywhere(chart, ins, name):
    """Return the worth that the wire alone shows at all posts of all rings, or two sightings that differ."""
    ins = check_ins(chart, ins)
    place = chart.places_of([check_wire(chart, name)])[0]
    first, other = _first_sightings(chart, ins, rings_of(chart, ins), place)
    if other is None:
        return Sure(first[2])
    return Differ(first[0], first[1], first[2], other[0], other[1], other[2])


def sure_outs(chart, ins):
    """Return for each out its sure worth or None."""
    ins = check_ins(chart, ins)
    rings = rings_of(chart, ins)
    worths = []
    for place in chart.places_of(chart.outs):
        first, other = _first_sightings(chart, ins, rings, place)
        worths.append(first[2] if other is None else None)
    return tuple(worths)


def unsure_ins(chart, name):
    """Return, ascending, all ins at which the wire is not sure."""
    place = chart.places_of([check_wire(chart, name)])[0]
    found = []
    for ins in all_ins(chart):
        _, other = _first_sightings(chart, ins, rings_of(chart, ins), place)
        if other is not None:
            found.append(ins)
    return tuple(found)


def is_untouched(chart, name):
    """Tell whether no letter can touch the wire."""
    name = check_wire(chart, name)
    maker = maker_of(chart, name)
    if maker is None:
        return True
    if name in chart.letters:
        return False
    # Makers of wires that are no letters stand on earlier days, so this comes to an end.
    return [take for take, _ in chart.boxes[maker[0]].takes if not is_untouched(chart, take)] == []

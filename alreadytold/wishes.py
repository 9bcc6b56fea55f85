"""What one may wish of the rings at told ins."""

from alreadytold.charts import check_ins
from alreadytold.errors import BadLot, BadWish
from alreadytold.ratios import is_whole
from alreadytold.rings import check_lot, rings_of
from alreadytold.wires import is_sequence
from alreadytold.working import shown_rows

ALONE = ("still", "one ring", "story")
WITH_THING = ("outs", "lot")


def _is_form(wish):
    if not is_sequence(wish, 1, 2) or not isinstance(wish[0], str):
        return False
    return wish[0] in (ALONE if len(wish) == 1 else WITH_THING)


def _outs_told(chart, row):
    """Return a row of a worth or None for each out as a tuple."""
    places = chart.places_of(chart.outs)
    if not is_sequence(row, len(places), len(places)):
        raise BadWish("outs")
    for place, worth in zip(places, row):
        if worth is not None and not is_whole(worth, 0, chart.wires[place][1] - 1):
            raise BadWish("outs")
    return tuple(row)


def check_wish(chart, wish):
    """Return a wish as tuples, a lot ascending without doubles."""
    if not _is_form(wish):
        raise BadWish("wish")
    if wish[0] == "outs":
        return ("outs", _outs_told(chart, wish[1]))
    if wish[0] == "lot":
        try:
            return ("lot", check_lot(chart, wish[1]))
        except BadLot:
            raise BadWish("lot")
    return tuple(wish)


def has_outs(chart, filling, row):
    """Tell whether a filling of all wires has the wished worths of the outs."""
    for place, worth in zip(chart.places_of(chart.outs), row):
        if worth is not None and filling[place] != worth:
            return False
    return True


def _shows(chart, ins, post, row):
    """Tell whether all that can come at a post has the wished worths of the outs."""
    return [filling for filling, _ in shown_rows(chart, ins, post) if not has_outs(chart, filling, row)] == []


def _is_as_wished(chart, ins, ring, wish):
    """Tell whether one ring is as a wish for outs, still or lot asks."""
    if wish[0] == "still":
        return len(ring) == 1
    if wish[0] == "lot":
        return [post for post in ring if post not in wish[1]] == []
    return [post for post in ring if not _shows(chart, ins, post, wish[1])] == []


def rings_against(chart, ins, wish):
    """Return the rings that stand against a right wish at right ins, in order."""
    rings = rings_of(chart, ins)
    if wish[0] == "one ring":
        return rings[1:]
    if wish[0] == "story":
        return () if [ring for ring in rings if len(ring) == 1] != [] else rings
    return tuple([ring for ring in rings if not _is_as_wished(chart, ins, ring, wish)])


def is_granted(chart, ins, wish):
    """Tell whether the wish is granted at these ins."""
    ins = check_ins(chart, ins)
    return rings_against(chart, ins, check_wish(chart, wish)) == ()

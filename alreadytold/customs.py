"""Customs of sending letters, and the shares of a wire's worths by each of them."""

from alreadytold.charts import all_ins, check_ins, check_wire, posts_of
from alreadytold.errors import BadCustom, BadShares, BadSlip
from alreadytold.grounding import known_worths
from alreadytold.ratios import compare, is_whole, sum_of
from alreadytold.rings import rings_of
from alreadytold.scaling import mean_ratio, whole_parts
from alreadytold.seldom import seldom
from alreadytold.single import single
from alreadytold.slips import check_slip, slipped
from alreadytold.staying import own_shares
from alreadytold.sureouts import sure_everywhere
from alreadytold.tellings import Sure, tells
from alreadytold.turning import check_shares
from alreadytold.wires import is_sequence
from alreadytold.working import worked


class Customs:
    """What stories and customs tell of a wire: one share for each worth in each field but the first and the last."""

    def __init__(self, stories, least, greatest, by_seldom, by_single, known):
        self.stories = stories
        self.least = least
        self.greatest = greatest
        self.by_seldom = by_seldom
        self.by_single = by_single
        self.known = known

    def __eq__(self, other):
        return (isinstance(other, Customs) and self.stories == other.stories and self.least == other.least
                and self.greatest == other.greatest and self.by_seldom == other.by_seldom
                and self.by_single == other.by_single and self.known == other.known)


def _custom_told(chart, ins, word, thing):
    """Return the thing behind the word of a custom as it is kept, or None if it is not right."""
    if word == "own":
        return thing if is_whole(thing, 0, len(rings_of(chart, ins)) - 1) else None
    try:
        if word == "slip":
            return check_slip(thing)
        return check_shares(chart, thing) if word == "told" else None
    except BadSlip:
        return None
    except BadShares:
        return None


def check_custom(chart, ins, custom):
    """Return a custom as a tuple."""
    ins = check_ins(chart, ins)
    if not is_sequence(custom, 1, 2) or not isinstance(custom[0], str):
        raise BadCustom(custom)
    if len(custom) == 1:
        if custom[0] not in ("seldom", "single"):
            raise BadCustom(custom)
        return tuple(custom)
    told = _custom_told(chart, ins, custom[0], custom[1])
    if told is None:
        raise BadCustom(custom)
    return (custom[0], told)


def shares_by(chart, ins, custom):
    """Return the shares of the letters by a custom."""
    ins = check_ins(chart, ins)
    custom = check_custom(chart, ins, custom)
    if custom[0] == "own":
        return own_shares(chart, ins, rings_of(chart, ins)[custom[1]])
    if custom[0] == "seldom":
        return seldom(chart, ins)
    if custom[0] == "single":
        return single(chart, ins)
    if custom[0] == "slip":
        return slipped(chart, ins, custom[1])
    return seldom(chart, ins, custom[1])


def _shown_shares(chart, ins, place):
    """Return for each worth of the wire at a place the shares with which the posts show it."""
    worths = list(range(chart.wires[place][1]))
    shown = [[] for _ in worths]
    for post in posts_of(chart):
        rows = worked(chart, ins, post)
        for worth in worths:
            shown[worth].append(sum_of([share for filling, _, share in rows if filling[place] == worth]))
    return shown


def _mean_shares(shown, shares):
    """Return for each worth the mean, by shares of the posts, of the shares with which they show it."""
    tops, bottom = whole_parts(shares)
    return tuple([mean_ratio(tops, bottom, row) for row in shown])


def worth_shares(chart, ins, custom, name):
    """Return for each worth of the wire its share by a custom."""
    ins = check_ins(chart, ins)
    custom = check_custom(chart, ins, custom)
    place = chart.places_of([check_wire(chart, name)])[0]
    return _mean_shares(_shown_shares(chart, ins, place), shares_by(chart, ins, custom))


def _furthest(rows, sign):
    """Return for each place the greatest of the ratios of some rows there, the least one if sign is -1."""
    best = list(rows[0])
    for row in rows:
        best = [share if sign * compare(share, other) > 0 else other for share, other in zip(row, best)]
    return tuple(best)


def customs_table(chart, ins, name):
    """Return what stories and customs tell of a wire."""
    ins = check_ins(chart, ins)
    place = chart.places_of([check_wire(chart, name)])[0]
    shown = _shown_shares(chart, ins, place)
    # Shares that stay are mixtures, so the least and the greatest are those of own shares.
    own = [_mean_shares(shown, own_shares(chart, ins, ring)) for ring in rings_of(chart, ins)]
    by_seldom = own[0]
    by_single = own[0]
    if len(own) > 1:
        by_seldom = _mean_shares(shown, seldom(chart, ins))
        by_single = _mean_shares(shown, single(chart, ins))
    known = known_worths(chart, ins)[place] if chart.is_sure else None
    return Customs(tells(chart, ins, name), _furthest(own, -1), _furthest(own, 1), by_seldom, by_single, known)


def story_not_sure(chart, name):
    """Return, ascending, all ins with stories that all give the wire one worth, at which it is not sure."""
    name = check_wire(chart, name)
    return tuple([ins for ins in all_ins(chart) if len(tells(chart, ins, name)) == 1
                  and not isinstance(sure_everywhere(chart, ins, name), Sure)])

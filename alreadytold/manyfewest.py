"""All fewest changes of the entries of one sure box, their number, and changes for all ins together."""

from math import factorial

from alreadytold.badrings import fitting_posts
from alreadytold.charts import all_ins, check_ins, check_sure, posts_of
from alreadytold.fewest import (NoWay, check_one_box, fewest_changes, new_ring_posts, plain_makes, plain_rows,
                                row_sending, with_changes)
from alreadytold.newrings import Sending, all_sendings, right_walks, walk_marks
from alreadytold.rings import numbers_of_posts, rings_of
from alreadytold.wires import filling_number
from alreadytold.wishes import check_wish, has_outs, rings_against
from alreadytold.working import shown_rows


class Everywhere:
    """The least number of changes at all ins together, and a row (ins, changes) for each ins."""

    def __init__(self, number, rows):
        self.number = number
        self.rows = rows

    def __eq__(self, other):
        return isinstance(other, Everywhere) and self.number == other.number and self.rows == other.rows


def _right_rows(chart, rows, wish):
    """Return the rows of the makes that are no letters that have the wished outs."""
    if wish[0] != "outs":
        return rows
    asked = {name: worth for name, worth in zip(chart.outs, wish[1]) if worth is not None}
    names = [name for name, _ in plain_makes(chart)]
    return [row for row in rows if [name for name, worth in zip(names, row) if asked.get(name, worth) != worth] == []]


def _sending_for(chart, ins, wish):
    """Return what the box sends at right ins, and what a right wish asks of new rings."""
    sends = []
    right = []
    fitting = fitting_posts(chart, ins, wish)
    for post in posts_of(chart):
        filling, sent = shown_rows(chart, ins, post)[0]
        sends.append(filling_number(chart.letter_sizes, sent))
        right.append(post in fitting and (wish[0] != "outs" or has_outs(chart, filling, wish[1])))
    kinds = {"one ring": "never", "still": "still"}
    rows = plain_rows(chart)
    return Sending(sends, [post in fitting for post in posts_of(chart)], right, rows, _right_rows(chart, rows, wish),
                   kinds.get(wish[0], "any"))


def _searches(chart, ins, wish, bad):
    """Return (slots, posts of rings that stay) for each search for changes; all posts are told by numbers."""
    lots = [numbers_of_posts(chart, ring) for ring in rings_of(chart, ins)]
    if wish[0] == "one ring":
        return [([other for other in lots if other != lot], lot) for lot in lots]
    slots = [numbers_of_posts(chart, ring) for ring in bad]
    settled = tuple([number for lot in lots if lot not in slots for number in lot])
    if settled:
        return [(slots, settled)]
    choice = numbers_of_posts(chart, new_ring_posts(chart, ins, bad, wish))
    inside = [number for slot in slots for number in slot]
    # If no post of a ring fits, one more post must be sent elsewhere to bear a ring.
    extra = [choice] if [number for number in choice if number in inside] == [] else []
    return [(extra + slots, ())]


def _story_changes(chart):
    """Return all single changes that make one post send itself."""
    return [((post, row_sending(chart, post, row)),) for post in posts_of(chart) for row in plain_rows(chart)]


def _told_changes(chart, chosen):
    """Return the changes that send some posts elsewhere, by (post, goal, row) in numbers."""
    posts = posts_of(chart)
    return tuple(sorted([(posts[post], row_sending(chart, posts[goal], row)) for post, goal, row in chosen]))


def all_fewest(chart, ins, wish):
    """Yield all changes of the least number that grant the wish, each once."""
    check_sure(chart)
    check_one_box(chart)
    ins = check_ins(chart, ins)
    wish = check_wish(chart, wish)
    bad = rings_against(chart, ins, wish)
    nothing = ()
    if not bad:
        yield nothing
    elif wish[0] == "story":
        for changes in _story_changes(chart):
            yield changes
    else:
        sending = _sending_for(chart, ins, wish)
        for slots, settled in _searches(chart, ins, wish, bad):
            for chosen in all_sendings(sending, slots, settled, nothing):
                yield _told_changes(chart, chosen)


def _power(base, exponent):
    power = 1
    for _ in range(exponent):
        power = power * base
    return power


def _product(numbers):
    whole = 1
    for number in numbers:
        whole = whole * number
    return whole


def _count_one_ring(lots, basins, many, rows):
    """Return the number of changes that leave just one of several rings."""
    total = 0
    for staying, basin in zip(lots, basins):
        others = _product([len(lot) for lot in lots if lot != staying])
        total += others * basin
    return total * _power(many, len(lots) - 2) * _power(rows, len(lots) - 1)


def _lots_on_new_rings(bad, basins, bearing):
    """Return (number of bad rings on new rings, posts that end in them): how often, by their posts and right walks.

    Bad rings that lie on no new ring may be left at any of their posts.
    """
    table = {(0, 0): 1}
    for lot, basin, bears in zip(bad, basins, bearing):
        further = {}
        for size, ended in table:
            number = table[(size, ended)]
            further[(size, ended)] = further.get((size, ended), 0) + number * len(lot)
            joined = (size + 1, ended + basin)
            further[joined] = further.get(joined, 0) + number * bears
        table = further
    return table


def _count_with_rings(sending, bad, basins, good):
    """Return the number of changes for outs or a lot if some ring is good or some bad ring has a fitting post."""
    bearing = [sum([right_walks(sending, post) for post in lot if sending.fits[post]]) for lot in bad]
    table = _lots_on_new_rings(bad, basins, bearing)
    total = 0
    for size, ended in table:
        others = len(bad) - size
        ways = table[(size, ended)] * factorial(size) * _power(len(sending.right_rows), size)
        if others > 0:
            ways = ways * _power(len(sending.rows), others) * (good + ended) * _power(len(sending.sends), others - 1)
        total += ways
    return total


def _count_with_extra(sending, bad, marks):
    """Return the number of changes for outs or a lot if no ring is good and no post of a ring fits."""
    total = 0
    for post, fits in enumerate(sending.fits):
        if fits:
            total += right_walks(sending, post) * len([mark for mark in marks if (mark >> post) & 1])
    many = _product([len(lot) for lot in bad]) * _power(len(sending.sends), len(bad) - 1)
    return total * many * _power(len(sending.rows), len(bad)) * len(sending.right_rows)


def _count_bad(chart, ins, wish, bad):
    """Return the number of fewest changes for any wish but a story, if some rings are bad."""
    sending = _sending_for(chart, ins, wish)
    marks = walk_marks(sending.sends)
    basins = [len([mark for mark in marks if (mark >> lot[0]) & 1]) for lot in sending.lots]
    many = len(sending.sends)
    rows = len(sending.rows)
    if wish[0] == "one ring":
        return _count_one_ring(sending.lots, basins, many, rows)
    bad_lots = [numbers_of_posts(chart, ring) for ring in bad]
    good = sum([basin for lot, basin in zip(sending.lots, basins) if lot not in bad_lots])
    bad_basins = [basin for lot, basin in zip(sending.lots, basins) if lot in bad_lots]
    if wish[0] == "still":
        ways = _product([len(lot) for lot in bad_lots]) * (good + 1)
        return ways * _power(many + 1, len(bad) - 1) * _power(rows, len(bad))
    inside = [post for lot in bad_lots for post in lot if sending.fits[post]]
    if good or inside:
        return _count_with_rings(sending, bad_lots, bad_basins, good)
    return _count_with_extra(sending, bad_lots, marks)


def _count_at(chart, ins, wish):
    """Return the number of fewest changes at right ins for a right wish."""
    bad = rings_against(chart, ins, wish)
    if not bad:
        return 1
    if wish[0] == "story":
        return len(_story_changes(chart))
    return _count_bad(chart, ins, wish, bad)


def count_fewest(chart, ins, wish):
    """Return how many changes of the least number grant the wish, 0 if there is no way."""
    check_sure(chart)
    check_one_box(chart)
    ins = check_ins(chart, ins)
    return _count_at(chart, ins, check_wish(chart, wish))


def fewest_everywhere(chart, wish):
    """Return changes of the least number for each ins, or that there is no way for some."""
    check_one_box(chart)
    wish = check_wish(chart, wish)
    number = 0
    rows = []
    for ins in all_ins(chart):
        found = fewest_changes(chart, ins, wish)
        if isinstance(found, NoWay):
            return found
        number += found.number
        rows.append((ins, found.changes))
    return Everywhere(number, tuple(rows))


def granted_chart(chart, wish):
    """Return a chart with the fewest entries changed at which the wish is granted at all ins."""
    found = fewest_everywhere(chart, wish)
    if isinstance(found, NoWay):
        return found
    for ins, changes in found.rows:
        chart = with_changes(chart, ins, changes)
    return chart


def count_everywhere(chart, wish):
    """Return in how many ways the fewest changes for all ins together can be chosen."""
    check_sure(chart)
    check_one_box(chart)
    wish = check_wish(chart, wish)
    return _product([_count_at(chart, ins, wish) for ins in all_ins(chart)])

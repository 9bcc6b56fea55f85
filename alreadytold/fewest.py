"""The fewest changed entries of one box after which a wish is granted."""

from alreadytold.badrings import bad_rings, fitting_posts
from alreadytold.charts import check_ins, posts_of
from alreadytold.errors import BadChanges, NotOneBox
from alreadytold.ratios import ONE
from alreadytold.rings import rings_of
from alreadytold.wires import fillings_of, is_filling, is_sequence, sizes_of
from alreadytold.wishes import check_wish, is_granted


class Fewest:
    """The least number of changes that grant a wish, and such changes."""

    def __init__(self, number, changes):
        self.number = number
        self.changes = changes

    def __eq__(self, other):
        return isinstance(other, Fewest) and self.number == other.number and self.changes == other.changes


class NoWay:
    """No changes grant the wish."""

    def __eq__(self, other):
        return isinstance(other, NoWay)


def check_one_box(chart):
    """Refuse a chart of several boxes, or whose box does not take all ins."""
    if len(chart.boxes) > 1:
        raise NotOneBox("boxes")
    taken = [name for name, _ in chart.boxes[0].takes]
    if [name for name in chart.ins if name not in taken] != []:
        raise NotOneBox("ins")


def entry_place(chart, ins, post):
    """Return the filling of the takes of the one box at these ins and this post."""
    worths = {name: worth for name, worth in zip(chart.ins + chart.letters, ins + post)}
    return tuple([worths[name] for name, _ in chart.boxes[0].takes])


def plain_makes(chart):
    """Return the wires that the one box makes and that are no letters, in the order of the makes."""
    return [wire for wire in chart.boxes[0].makes if wire[0] not in chart.letters]


def plain_rows(chart):
    """Return all rows of worths of the plain makes, ascending."""
    sizes = sizes_of(plain_makes(chart))
    return list(fillings_of(sizes))


def row_sending(chart, goal, others):
    """Return the row of the one box that sends a goal; others are the worths of its plain makes."""
    worths = {name: worth for name, worth in zip(chart.letters, goal)}
    for (name, _), worth in zip(plain_makes(chart), others):
        worths[name] = worth
    return tuple([worths[name] for name, _ in chart.boxes[0].makes])


def _check_change(chart, ins, index, change, before):
    """Return a change as tuples; it must be above the post before and unlike the entry that stands."""
    box = chart.boxes[0]
    if not is_sequence(change, 2, 2):
        raise BadChanges(index, "change")
    if not is_filling(chart.letter_sizes, change[0]):
        raise BadChanges(index, "post")
    if not is_filling(box.make_sizes, change[1]):
        raise BadChanges(index, "row")
    post, row = tuple(change[0]), tuple(change[1])
    if before is not None and post <= before:
        raise BadChanges(index, "order")
    if box.made_by(entry_place(chart, ins, post)) == ((row, ONE),):
        raise BadChanges(index, "same")
    return post, row


def _check_changes(chart, ins, changes):
    """Return changes as tuples."""
    if not is_sequence(changes, 0, len(posts_of(chart))):
        raise BadChanges(0, "many")
    told = []
    before = None
    for index, change in enumerate(changes):
        told.append(_check_change(chart, ins, index, change, before))
        before = told[-1][0]
    return tuple(told)


def with_changes(chart, ins, changes):
    """Return the chart with right changes at right ins."""
    box = chart.boxes[0]
    for post, row in changes:
        box = box.with_entry(entry_place(chart, ins, post), row)
    return chart.with_box(0, box)


def changed_chart(chart, ins, changes):
    """Return the chart with the entries changed."""
    check_one_box(chart)
    ins = check_ins(chart, ins)
    return with_changes(chart, ins, _check_changes(chart, ins, changes))


def new_ring_posts(chart, ins, bad, wish):
    """Return the posts of which one must be in a new ring if all rings are bad.

    Fitting posts of bad rings, for these are changed anyhow; if there are none, all fitting posts.
    """
    fitting = fitting_posts(chart, ins, wish)
    inside = [post for ring in bad for post in ring if post in fitting]
    return sorted(inside) if inside else list(fitting)


def fewest_number(chart, ins, wish):
    """Return the least number of changes after which the wish is granted, None if there is no way."""
    found = fewest_changes(chart, ins, wish)
    return found.number if isinstance(found, Fewest) else None


def _wished_others(chart, wish):
    """Return worths of the makes that are no letters, as the wish asks, 0 where it does not ask."""
    asked = {}
    if wish[0] == "outs":
        for name, worth in zip(chart.outs, wish[1]):
            if worth is not None:
                asked[name] = worth
    return [asked.get(name, 0) for name, _ in plain_makes(chart)]


def _told_changes(chart, goals, wish):
    """Return the changes that send each post to its goal."""
    others = _wished_others(chart, wish)
    return tuple([(post, row_sending(chart, goals[post], others)) for post in sorted(goals)])


def fewest_changes(chart, ins, wish):
    """Return the least number of changes that grant the wish, with such changes, or that there is no way."""
    check_one_box(chart)
    ins = check_ins(chart, ins)
    wish = check_wish(chart, wish)
    bad = bad_rings(chart, ins, wish)
    if not bad:
        return Fewest(0, ())
    if wish[0] == "story":
        return Fewest(1, _told_changes(chart, {bad[0][0]: bad[0][0]}, wish))
    good = [ring for ring in rings_of(chart, ins) if ring not in bad]
    # Each bad ring is left at one of its posts, for a good ring or a new one of one post.
    if good:
        goals = {ring[0]: good[0][0] for ring in bad}
    else:
        choice = new_ring_posts(chart, ins, bad, wish)
        if not choice:
            return NoWay()
        goals = {choice[0] if choice[0] in ring else ring[0]: choice[0] for ring in bad}
        goals[choice[0]] = choice[0]
    changes = _told_changes(chart, goals, wish)
    return Fewest(len(changes), changes)


def changes_fault(chart, ins, wish, changes):
    """Return None for changes of the least number that grant the wish, otherwise the first word that applies."""
    check_one_box(chart)
    ins = check_ins(chart, ins)
    wish = check_wish(chart, wish)
    try:
        changes = _check_changes(chart, ins, changes)
    except BadChanges as wrong:
        return wrong.what
    if not is_granted(with_changes(chart, ins, changes), ins, wish):
        return "wish"
    return "more" if len(changes) > fewest_number(chart, ins, wish) else None


def needed_posts(chart, ins, wish):
    """Return, ascending, the posts that are changed in all changes of the least number."""
    check_one_box(chart)
    ins = check_ins(chart, ins)
    wish = check_wish(chart, wish)
    bad = bad_rings(chart, ins, wish)
    if not bad or wish[0] not in ("outs", "lot"):
        return ()
    needed = {ring[0]: True for ring in bad if len(ring) == 1}
    if len(bad) == len(rings_of(chart, ins)):
        choice = new_ring_posts(chart, ins, bad, wish)
        if not choice:
            return ()
        if len(choice) == 1:
            needed[choice[0]] = True
    return tuple(sorted(needed))

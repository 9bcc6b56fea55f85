"""All ways to send some posts of a sure box elsewhere so that only wished rings come.

Posts are told by their numbers. A ring can only come through a post that is sent elsewhere.
"""

from alreadytold.lots import closed_of


class Sending:
    """What a sure box sends at told ins, and what a wish asks of new rings.

    sends has the goal of each post and lots all rings; fits tells which posts the wish can bear in a ring,
    right those of them whose entry shows what is wished. A new ring may be of any kind, of one post
    alone (still), or must not be (never). rows are all rows of the makes that are no letters, right_rows
    those with the wished worths.
    """

    def __init__(self, sends, fits, right, rows, right_rows, kind):
        self.sends = sends
        self.fits = fits
        self.right = right
        self.rows = rows
        self.right_rows = right_rows
        self.kind = kind
        self.lots = closed_of([[goal] for goal in sends])


def _ring_by(sends, ends, post, goal):
    """Return the new ring that comes if the post is sent to the goal, the post first, () if there is none.

    Walks from the goal come to the post or to the ends.
    """
    ring = (post,)
    here = goal
    while here != post:
        if here in ends:
            return ()
        ring = ring + (here,)
        here = sends[here]
    return ring


def _rows_for(sending, right, ring, may_wait):
    """Return the rows with which a post may be sent elsewhere if this new ring comes."""
    if not ring:
        return sending.rows if may_wait else []
    if sending.kind == "never" or (sending.kind == "still" and len(ring) > 1):
        return []
    wrong = [post for post in ring[1:] if not right[post]]
    return sending.right_rows if sending.fits[ring[0]] and wrong == [] else []


def _sent_now(sending, chosen):
    """Return the goals of all posts, and which are right, when the chosen ones are sent elsewhere."""
    sends = list(sending.sends)
    right = list(sending.right)
    for post, goal, row in chosen:
        sends[post] = goal
        right[post] = sending.fits[post] and row in sending.right_rows
    return sends, right


def all_sendings(sending, slots, settled, chosen):
    """Yield all tuples (post, goal, row) for a post of each slot, behind the chosen ones, with wished rings alone.

    settled has the posts of the rings that stay, new ones among them. Each bad ring is a slot.
    """
    if len(chosen) == len(slots):
        yield chosen
        return
    sends, right = _sent_now(sending, chosen)
    later = [post for slot in slots[len(chosen) + 1:] for post in slot]
    ends = list(settled) + later
    # If nothing is settled yet, a later slot must be able to bear a ring.
    may_wait = len(settled) > 0 or [post for post in later if sending.fits[post]] != []
    for post in slots[len(chosen)]:
        for goal in range(len(sends)):
            ring = _ring_by(sends, ends, post, goal)
            settled_then = settled + ring
            for row in _rows_for(sending, right, ring, may_wait):
                chosen_then = chosen + ((post, goal, row),)
                yield from all_sendings(sending, slots, settled_then, chosen_then)


def walk_marks(sends):
    """Return for each post the posts that its walk comes to, itself too, as the bits of a whole number."""
    marks = []
    for post, _ in enumerate(sends):
        mark = 0
        here = post
        while not (mark >> here) & 1:
            mark = mark | (1 << here)
            here = sends[here]
        marks.append(mark)
    return marks


def right_walks(sending, goal):
    """Return the number of posts from which right posts alone lead to the goal, the goal itself counted."""
    found = [goal]
    place = 0
    while place < len(found):
        for post, sent in enumerate(sending.sends):
            if sent == found[place] and sending.right[post] and post not in found:
                found.append(post)
        place += 1
    return len(found)

"""Rings: sets of posts that the turning never leaves and in which each comes to each."""

from math import gcd

from alreadytold.charts import check_ins, check_post, posts_of
from alreadytold.errors import BadLot, BadTurns, NoRing
from alreadytold.lots import beats_of_lot, closed_of, is_left, least_walk, turns_to
from alreadytold.ratios import is_whole
from alreadytold.wires import filling_number, is_filling, is_sequence
from alreadytold.working import shown_rows

MOST_TURNS = 10 ** 30


class OneRing:
    """The only ring."""

    def __init__(self, ring):
        self.ring = ring

    def __eq__(self, other):
        return isinstance(other, OneRing) and self.ring == other.ring


class TwoRings:
    """The first two rings of several."""

    def __init__(self, one, other):
        self.one = one
        self.other = other

    def __eq__(self, other):
        return isinstance(other, TwoRings) and self.one == other.one and self.other == other.other


class Meeting:
    """A post that comes after so many turns whatever the beginning was."""

    def __init__(self, turns, post):
        self.turns = turns
        self.post = post

    def __eq__(self, other):
        return isinstance(other, Meeting) and self.turns == other.turns and self.post == other.post


def check_lot(chart, lot):
    """Return a lot of posts ascending without doubles."""
    if not is_sequence(lot, 0):
        raise BadLot(0)
    for index, post in enumerate(lot):
        if not is_filling(chart.letter_sizes, post):
            raise BadLot(index)
    return tuple(sorted(set([tuple(post) for post in lot])))


def posts_numbered(chart, numbers):
    """Return the posts with these numbers, in the order of the numbers."""
    posts = posts_of(chart)
    return tuple([posts[number] for number in numbers])


def numbers_of_posts(chart, posts):
    """Return the numbers of posts, in the order of the posts."""
    return tuple([filling_number(chart.letter_sizes, post) for post in posts])


def moves_of_posts(chart, ins):
    """Return for each post the ascending numbers of the posts that it sends with a share above 0."""
    ins = check_ins(chart, ins)
    moves = []
    for post in posts_of(chart):
        sent_posts = sorted(set([sent for _, sent in shown_rows(chart, ins, post)]))
        moves.append([filling_number(chart.letter_sizes, sent) for sent in sent_posts])
    return moves


def ring_numbers(chart, moves, ring):
    """Return the numbers of the posts of a ring, or refuse a lot that is none."""
    lot = check_lot(chart, ring)
    numbers = numbers_of_posts(chart, lot)
    if numbers not in closed_of(moves):
        raise NoRing(lot)
    return numbers


def rings_of(chart, ins):
    """Return all rings, each an ascending tuple of posts, by their least posts."""
    lots = closed_of(moves_of_posts(chart, ins))
    return tuple([posts_numbered(chart, lot) for lot in lots])


def turns_to_rings(chart, ins):
    """Return for each post the least number of turns after which it can be in a ring."""
    moves = moves_of_posts(chart, ins)
    return tuple(turns_to(moves, [number for lot in closed_of(moves) for number in lot]))


def shortest_walk(chart, ins, post, lot):
    """Return the least of the shortest walks from a post into a lot, None if there is none."""
    ins = check_ins(chart, ins)
    post = check_post(chart, post)
    goals = numbers_of_posts(chart, check_lot(chart, lot))
    moves = moves_of_posts(chart, ins)
    turns = turns_to(moves, goals)
    here = filling_number(chart.letter_sizes, post)
    if turns[here] is None:
        return None
    return posts_numbered(chart, least_walk(moves, turns, here))


def ring_fault(chart, ins, lot):
    """Return None for a ring, otherwise the first word that applies."""
    ins = check_ins(chart, ins)
    numbers = numbers_of_posts(chart, check_lot(chart, lot))
    if not numbers:
        return "lot"
    moves = moves_of_posts(chart, ins)
    if is_left(moves, numbers):
        return "leaves"
    return None if numbers in closed_of(moves) else "parts"


def beats_of(chart, ins, ring):
    """Return the beats of a ring, the first one with its least post."""
    moves = moves_of_posts(chart, ins)
    numbers = ring_numbers(chart, moves, ring)
    return tuple([posts_numbered(chart, beat) for beat in beats_of_lot(moves, numbers)])


def only_ring(chart, ins):
    """Return the ring if there is just one, otherwise the first two."""
    rings = rings_of(chart, ins)
    return OneRing(rings[0]) if len(rings) == 1 else TwoRings(rings[0], rings[1])


def _first_meeting(moves):
    """Return the least number of turns after which all can be at one number, and the least such.

    There must be just one closed lot, of one beat.
    """
    marks = [1 << number for number, _ in enumerate(moves)]
    turns = 0
    while True:
        shared = marks[0]
        for mark in marks:
            shared = shared & mark
        if shared > 0:
            # The lowest bit that all have in common is the least number.
            return turns, (shared & -shared).bit_length() - 1
        marks = [_joined_marks(marks, leads) for leads in moves]
        turns += 1


def _joined_marks(marks, numbers):
    joined = 0
    for number in numbers:
        joined = joined | marks[number]
    return joined


def meeting_of(chart, ins):
    """Return the first meeting of the walks from all posts, None if there is none."""
    moves = moves_of_posts(chart, ins)
    lots = closed_of(moves)
    if len(lots) > 1 or len(beats_of_lot(moves, lots[0])) > 1:
        return None
    turns, number = _first_meeting(moves)
    return Meeting(turns, posts_of(chart)[number])


def check_every(turns):
    """Refuse what is no number of turns from 1 to 10 ** 30."""
    if not is_whole(turns, 1, MOST_TURNS):
        raise BadTurns(turns)


def lots_every(moves, turns):
    """Return (lot, ring, number of lots of the ring) for each closed lot of so many turns."""
    rows = []
    for ring in closed_of(moves):
        beats = beats_of_lot(moves, ring)
        many = gcd(turns, len(beats))
        for first in range(many):
            joined = [number for beat in beats[first::many] for number in beat]
            rows.append((tuple(sorted(joined)), ring, many))
    return sorted(rows)


def rings_every(chart, ins, turns):
    """Return the closed lots of the posts if one looks at every so many turns alone."""
    ins = check_ins(chart, ins)
    check_every(turns)
    rows = lots_every(moves_of_posts(chart, ins), turns)
    return tuple([posts_numbered(chart, lot) for lot, _, _ in rows])

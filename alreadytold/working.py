"""Working the boxes day by day, with ins and a post told."""

from alreadytold.charts import check_ins, check_post
from alreadytold.ratios import ONE, times


def worths_at(chart, filling, names):
    """Return the worths that a filling of all wires gives the wires with these names."""
    return tuple([filling[place] for place in chart.places_of(names)])


def begun_filling(chart, ins, post):
    """Return a list of one worth for each wire: the told ones, None for all others."""
    worths = [None for _ in chart.wires]
    for place, worth in zip(chart.in_places, ins):
        worths[place] = worth
    for place, worth in zip(chart.letter_places, post):
        worths[place] = worth
    return worths


def _with_made(chart, worths, sent, makes, row):
    """Return both worths and sent with a row made; a letter keeps its told worth."""
    worths = list(worths)
    sent = list(sent)
    for place, worth in zip(makes, row):
        if place in chart.letter_places:
            sent[chart.letter_places.index(place)] = worth
        else:
            worths[place] = worth
    return worths, sent


def _all_parts(chart, ins, post, first):
    """Return a list (worths, sent, share) of all that can come; shares are left out if first is None."""
    parts = [(begun_filling(chart, ins, post), post, first)]
    for number, takes, makes in chart.steps:
        box = chart.boxes[number]
        further = []
        for worths, sent, share in parts:
            for row, part in box.made_by([worths[place] for place in takes]):
                whole = share if share is None or part == ONE else times(share, part)
                further.append(_with_made(chart, worths, sent, makes, row) + (whole,))
        parts = further
    return parts


def worked(chart, ins, post):
    """Return all that can come as rows (filling, sent, share), ascending."""
    ins = check_ins(chart, ins)
    post = check_post(chart, post)
    parts = _all_parts(chart, ins, post, ONE)
    return tuple(sorted([(tuple(worths), tuple(sent), share) for worths, sent, share in parts]))


def shown_rows(chart, ins, post):
    """Return the rows (filling, sent) of worked for right ins and a right post, ascending.

    Without the products of long shares they come much sooner.
    """
    parts = _all_parts(chart, ins, post, None)
    return sorted([(tuple(worths), tuple(sent)) for worths, sent, _ in parts])

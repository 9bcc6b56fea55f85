"""Which worths of wires are left when all are struck that cannot come."""

from alreadytold.charts import check_ins
from alreadytold.grounding import entries_within


def _begun_lefts(chart, ins):
    """Return the worths of each wire that are left by the told ins, and the couples (place, worth) struck."""
    lefts = [list(range(size)) for _, size in chart.wires]
    struck = []
    for place, told in zip(chart.in_places, ins):
        if told is not None:
            struck.extend([(place, worth) for worth in lefts[place] if worth != told])
            lefts[place] = [told]
    return lefts, struck


def _next_struck(chart, lefts):
    """Return, ascending, (place, worth) for each left worth that no entry makes of left worths."""
    struck = []
    for number, takes, makes in chart.steps:
        box = chart.boxes[number]
        numbers = entries_within(box.take_sizes, [lefts[place] for place in takes])
        rows = [row for entry in numbers for row, _ in box.entries[entry]]
        for at, place in enumerate(makes):
            made = {row[at]: True for row in rows}
            struck.extend([(place, worth) for worth in lefts[place] if worth not in made])
    return sorted(struck)


def lefts_from(chart, ins):
    """Return the couples (place, worth) struck round by round, and the worths of each wire that are left."""
    lefts, struck = _begun_lefts(chart, ins)
    rounds = [struck]
    struck = _next_struck(chart, lefts)
    while struck:
        rounds.append(struck)
        lefts = [[worth for worth in worths if (place, worth) not in struck] for place, worths in enumerate(lefts)]
        struck = _next_struck(chart, lefts)
    return rounds, lefts


def struck_rounds(chart, ins):
    """Return for each round the couples (name, worth) that are struck in it."""
    rounds, _ = lefts_from(chart, check_ins(chart, ins, True))
    return tuple([tuple([(chart.wires[place][0], worth) for place, worth in struck]) for struck in rounds])


def left_worths(chart, ins):
    """Return for each wire the ascending worths that are left."""
    _, lefts = lefts_from(chart, check_ins(chart, ins, True))
    return tuple([tuple(worths) for worths in lefts])

"""Counts of a chart with some letters drawn in: told worths that must be the sent ones."""

from alreadytold.charts import all_ins, posts_of
from alreadytold.counts import Counts
from alreadytold.errors import NoLetter, OtherWires
from alreadytold.wires import is_sequence
from alreadytold.working import shown_rows, worths_at


def wires_named(chart, names):
    """Return the wires with these names, in the order of the names."""
    return tuple([chart.wires[place] for place in chart.places_of(names)])


def _check_names(chart, names):
    """Return a list of True for each letter that is drawn in, False for each other one."""
    if not is_sequence(names, 0):
        raise NoLetter(names)
    for name in names:
        if not isinstance(name, str) or name not in chart.letters:
            raise NoLetter(name)
    return [letter in names for letter in chart.letters]


def _agrees(drawn, post, sent):
    """Tell whether each letter that is drawn in is sent as it was told."""
    for is_drawn, worth, other in zip(drawn, post, sent):
        if is_drawn and worth != other:
            return False
    return True


def _left_over(drawn, row):
    """Return the worths of the letters that are not drawn in."""
    return tuple([worth for is_drawn, worth in zip(drawn, row) if not is_drawn])


def counts_of(chart, names):
    """Return the counts of a chart with the letters of these names drawn in."""
    drawn = _check_names(chart, names)
    table = {}
    for ins in all_ins(chart):
        for post in posts_of(chart):
            told = ins + _left_over(drawn, post)
            for filling, sent in shown_rows(chart, ins, post):
                if _agrees(drawn, post, sent):
                    couple = (told, worths_at(chart, filling, chart.outs) + _left_over(drawn, sent))
                    table[couple] = table.get(couple, 0) + 1
    rows = [(told, sent, table[(told, sent)]) for told, sent in sorted(table)]
    letters = _left_over(drawn, chart.letters)
    return Counts(wires_named(chart, chart.ins), wires_named(chart, letters), wires_named(chart, chart.outs), rows)


def all_in(chart):
    """Return the counts of a chart with all letters drawn in."""
    return counts_of(chart, chart.letters)


def draw_in(counts, name):
    """Return the counts with one more letter drawn in."""
    names = [letter for letter, _ in counts.letters]
    if not isinstance(name, str) or name not in names:
        raise NoLetter(name)
    place = names.index(name)
    told_place = len(counts.ins) + place
    sent_place = len(counts.outs) + place
    table = {}
    for told, sent, number in counts.rows:
        if told[told_place] == sent[sent_place]:
            couple = (told[:told_place] + told[told_place + 1:], sent[:sent_place] + sent[sent_place + 1:])
            table[couple] = table.get(couple, 0) + number
    rows = [(told, sent, table[(told, sent)]) for told, sent in sorted(table)]
    return Counts(counts.ins, counts.letters[:place] + counts.letters[place + 1:], counts.outs, rows)


def draw_all(counts, names):
    """Return the counts with the letters of these names drawn in one after another."""
    if not is_sequence(names, 0):
        raise NoLetter(names)
    for name in names:
        counts = draw_in(counts, name)
    return counts


def check_like_wires(rows):
    """Refuse wires that differ, by rows (word, wires, other wires) in the order in which they are asked."""
    for word, wires, others in rows:
        if wires != others:
            raise OtherWires(word)


def same_lets(counts, other):
    """Tell whether the same couples have a count above 0 in both."""
    check_like_wires([("ins", counts.ins, other.ins), ("letters", counts.letters, other.letters),
                      ("outs", counts.outs, other.outs)])
    return [row[:2] for row in counts.rows] == [row[:2] for row in other.rows]

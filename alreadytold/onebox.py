"""A chart of one box for any counts."""

from alreadytold.boxes import Box
from alreadytold.charts import Chart
from alreadytold.drawing import all_in, wires_named
from alreadytold.errors import NoBox
from alreadytold.surroundings import free_names
from alreadytold.wires import count_fillings, fillings_of, sizes_of

LETTER_SIZE = 4
MOST_LETTERS = 3
MOST_WIRES = 6
MOST_FILLINGS = 64
MOST_ENTRIES = 256


def _fewest_letters(counts):
    """Return the fewest letters of size 4 with which one box has the counts, and the number of their posts."""
    sums = {}
    for told, _, number in counts.rows:
        sums[told] = sums.get(told, 0) + number
    greatest = max([sums[told] for told in sums], default=0)
    letters = 0
    posts = 1
    # Where there is no story, some letter must be sent otherwise than it was told.
    lacks = len(sums) < count_fillings(sizes_of(counts.ins))
    while posts < greatest or (lacks and letters == 0):
        letters += 1
        posts = posts * LETTER_SIZE
    return letters, posts


def _check_counts(counts, letters, posts):
    """Refuse counts that no chart of one box can have within the bounds."""
    in_names = [name for name, _ in counts.ins]
    if counts.letters:
        raise NoBox("letters")
    shown = [name for name, _ in counts.outs if name in in_names]
    if shown or count_fillings(sizes_of(counts.outs)) > MOST_FILLINGS:
        raise NoBox("outs")
    if letters > MOST_LETTERS:
        raise NoBox("post")
    fillings = count_fillings(sizes_of(counts.ins))
    if fillings > MOST_FILLINGS or len(counts.ins) + letters > MOST_WIRES or posts * fillings > MOST_ENTRIES:
        raise NoBox("takes")
    if not 1 <= len(counts.outs) + letters <= MOST_WIRES:
        raise NoBox("makes")


def _rows_at(shown, nothing, posts):
    """Return a row of outs and letters for each post: one story for each of the outs shown, no others."""
    rows = []
    for number, post in enumerate(posts):
        if number < len(shown):
            rows.append(shown[number] + post)
        else:
            rows.append(nothing + posts[(number + 1) % len(posts)])
    return rows


def one_box(counts):
    """Return a chart of one sure box with these counts and the fewest letters."""
    letters, many = _fewest_letters(counts)
    _check_counts(counts, letters, many)
    names = free_names([name for name, _ in counts.ins + counts.outs], letters)
    wires = tuple([(name, LETTER_SIZE) for name in names])
    letter_sizes = sizes_of(wires)
    posts = tuple(fillings_of(letter_sizes))
    shown = {}
    for told, outs, number in counts.rows:
        shown.setdefault(told, []).extend([outs for _ in range(number)])
    nothing = tuple([0 for _ in counts.outs])
    entries = []
    for told in fillings_of(counts.told_sizes):
        entries.extend(_rows_at(shown.get(told, []), nothing, posts))
    box = Box(0, counts.ins + wires, counts.outs + wires, entries)
    return Chart(counts.ins + counts.outs + wires, [box], [name for name, _ in counts.outs])


def one_box_fault(counts, chart):
    """Return None for a chart of one sure box with these counts and the fewest letters, otherwise the first word."""
    if len(chart.boxes) > 1 or not chart.is_sure:
        return "box"
    if wires_named(chart, chart.ins) != counts.ins:
        return "ins"
    if wires_named(chart, chart.outs) != counts.outs:
        return "outs"
    if all_in(chart) != counts:
        return "counts"
    letters, _ = _fewest_letters(counts)
    return "letters" if len(chart.letters) > letters else None

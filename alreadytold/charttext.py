"""Charts as texts, and texts read back as charts."""

from alreadytold.boxes import Box
from alreadytold.charts import Chart
from alreadytold.errors import BadText
from alreadytold.ratios import is_ratio, ratio_text
from alreadytold.wires import is_name

FIGURES = "0123456789"
SIZES = "234"
LONGEST_SHARE = 201


def _row_text(row):
    return "".join([str(worth) for worth in row])


def _entry_text(entry):
    if len(entry) == 1:
        return _row_text(entry[0][0])
    return "+".join([f"{_row_text(row)}={ratio_text(share)}" for row, share in entry])


def box_text(box):
    """Return the row of a box."""
    takes = [name for name, _ in box.takes]
    makes = [name for name, _ in box.makes]
    entries = [_entry_text(entry) for entry in box.entries]
    return " ".join(["box", str(box.day), ":"] + takes + [">"] + makes + [":"] + entries)


def chart_text(chart):
    """Return the rows of a chart, separated by line feeds."""
    wires = " ".join(["wires"] + [f"{name}:{size}" for name, size in chart.wires])
    outs = " ".join(["outs"] + list(chart.outs))
    return "\n".join([wires, outs] + [box_text(box) for box in chart.boxes])


def _are_figures(word):
    """Tell whether a word is one figure or more."""
    for sign in word:
        if sign not in FIGURES:
            return False
    return word != ""


def _read_wire(word):
    """Return the wire of a word NAME:SIZE."""
    name, _, size = word.partition(":")
    if not is_name(name) or len(size) != 1 or size not in SIZES:
        raise BadText(0, "wire")
    return (name, int(size))


def _read_wires(words):
    if words[0] != "wires":
        raise BadText(0, "word")
    return [_read_wire(word) for word in words[1:]]


def _read_outs(words):
    if words[0] != "outs":
        raise BadText(1, "word")
    for word in words[1:]:
        if not is_name(word):
            raise BadText(1, "out")
    return words[1:]


def _read_share(word):
    """Return the ratio whose text the word is, or None."""
    top, slash, bottom = word.partition("/")
    if len(word) > LONGEST_SHARE or not _are_figures(top):
        return None
    if slash and not _are_figures(bottom):
        return None
    ratio = (int(top), int(bottom) if slash else 1)
    # Only the text that a ratio would be written as counts: no 2/4, 1/1 or 01.
    return ratio if is_ratio(ratio) and ratio_text(ratio) == word else None


def _read_couple(word):
    """Return the couple (row, share) of a word like 00=1/2, or None."""
    figures, _, rest = word.partition("=")
    share = _read_share(rest)
    if not _are_figures(figures) or share is None:
        return None
    return (_read_figures(figures), share)


def _read_figures(word):
    return tuple([int(sign) for sign in word])


def _read_entry(word):
    """Return the entry of a word, or None if it is no entry word."""
    if _are_figures(word):
        return _read_figures(word)
    couples = [_read_couple(part) for part in word.split("+")]
    return None if None in couples else couples


def _named_parts(row, words):
    """Return the words of the takes, of the makes and of the entries of a box's row."""
    if words[0] != "box":
        raise BadText(row, "word")
    if len(words) < 2 or len(words[1]) != 1 or words[1] not in FIGURES:
        raise BadText(row, "day")
    if len(words) < 3 or words[2] != ":" or ">" not in words[3:]:
        raise BadText(row, "form")
    middle = words.index(">", 3)
    if ":" not in words[middle + 1:]:
        raise BadText(row, "form")
    end = words.index(":", middle + 1)
    return words[3:middle], words[middle + 1:end], words[end + 1:]


def _read_box(row, words, sizes):
    """Return what Box takes, as a row of words tells it."""
    takes, makes, entry_words = _named_parts(row, words)
    for name in takes + makes:
        if name not in sizes:
            raise BadText(row, "name")
    entries = [_read_entry(word) for word in entry_words]
    if None in entries:
        raise BadText(row, "entry")
    return (int(words[1]), [(name, sizes[name]) for name in takes],
            [(name, sizes[name]) for name in makes], entries)


def read_chart(text):
    """Return the chart of a text as chart_text writes it."""
    rows = [row.split(" ") for row in text.split("\n")]
    wires = _read_wires(rows[0])
    if len(rows) < 2:
        raise BadText(1, "lacking")
    outs = _read_outs(rows[1])
    sizes = {}
    for name, size in wires:
        sizes.setdefault(name, size)
    told = [_read_box(number, words, sizes) for number, words in enumerate(rows) if number > 1]
    return Chart(wires, [Box(day, takes, makes, entries) for day, takes, makes, entries in told], outs)

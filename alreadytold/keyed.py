"""Keys: lots of letters that make all letters known when they are told."""

from itertools import combinations

from alreadytold.charts import check_ins, check_sure
from alreadytold.errors import BadNames, NoKey
from alreadytold.grounding import are_letters_known, begun_worths, rounds_from
from alreadytold.wires import fillings_of, is_sequence
from alreadytold.working import worked


def _check_names(chart, lot):
    """Return unlike names of letters in the order of the letters."""
    if not is_sequence(lot, 0):
        raise BadNames(0)
    free = list(chart.letters)
    for index, name in enumerate(lot):
        if not isinstance(name, str) or name not in free:
            raise BadNames(index)
        free.remove(name)
    return tuple([name for name in chart.letters if name in lot])


def _fillings_of_lot(chart, lot):
    """Return all fillings of the letters of a lot, ascending."""
    sizes = [size for name, size in zip(chart.letters, chart.letter_sizes) if name in lot]
    return list(fillings_of(sizes))


def _post_known(chart, ins, lot, filling):
    """Return the post of the known worths if the letters of a lot are told so, None if a letter is not known."""
    _, worths = rounds_from(chart, begun_worths(chart, ins, list(zip(lot, filling))))
    if not are_letters_known(chart, worths):
        return None
    return tuple([worths[place] for place in chart.letter_places])


def _is_key(chart, ins, lot):
    for filling in _fillings_of_lot(chart, lot):
        if _post_known(chart, ins, lot, filling) is None:
            return False
    return True


def is_key(chart, ins, lot):
    """Tell whether all letters are known for all fillings of a lot of letters."""
    check_sure(chart)
    ins = check_ins(chart, ins)
    return _is_key(chart, ins, _check_names(chart, lot))


def fewest_keys(chart, ins):
    """Return all keys of the fewest letters, ascending by the places of their letters."""
    check_sure(chart)
    ins = check_ins(chart, ins)
    names = list(chart.letters)
    for many in range(len(names) + 1):
        keys = [lot for lot in combinations(names, many) if _is_key(chart, ins, lot)]
        if keys:
            return tuple(keys)
    return ()


def _rows_sent(chart, ins, lot):
    """Return (filling, sent, filling of all wires) for each filling of the letters of a key."""
    check_sure(chart)
    ins = check_ins(chart, ins)
    lot = _check_names(chart, lot)
    places = [chart.letters.index(name) for name in lot]
    rows = []
    for filling in _fillings_of_lot(chart, lot):
        post = _post_known(chart, ins, lot, filling)
        if post is None:
            raise NoKey(filling)
        worths, sent, _ = worked(chart, ins, post)[0]
        rows.append((filling, tuple([sent[place] for place in places]), worths))
    return rows


def sent_back(chart, ins, lot):
    """Return for each filling of the letters of a key what their makers send back."""
    return tuple([(filling, sent) for filling, sent, _ in _rows_sent(chart, ins, lot)])


def keyed_stories(chart, ins, lot):
    """Return all stories, by the fillings of the letters of a key that are sent back as they were told."""
    return tuple([worths for filling, sent, worths in _rows_sent(chart, ins, lot) if filling == sent])

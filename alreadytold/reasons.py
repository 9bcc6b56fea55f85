"""Why wires are known, and which lots of ins make them known."""

from itertools import combinations

from alreadytold.charts import check_ins, check_sure, check_wire, maker_of
from alreadytold.errors import NotKnown
from alreadytold.grounding import agreeing_entries, begun_worths, check_told, rounds_from, worths_made
from alreadytold.ratios import is_whole
from alreadytold.wires import is_sequence


def _least_lot(box, at, worths, earlier):
    """Return the first of the least lots of takes that alone give the make its worth.

    worths has for each take what it is known to be, earlier whether it is known earlier than the make.
    """
    places = [place for place, is_early in enumerate(earlier) if is_early]
    for many in range(len(places) + 1):
        for lot in combinations(places, many):
            told = [worth if place in lot else None for place, worth in enumerate(worths)]
            if len(worths_made(box, agreeing_entries(box, told), at)) == 1:
                return lot
    return None


def _reason_at(chart, place, round_of, worths):
    """Return the names of the lot of a wire that is known in a later round than 0."""
    number, at = maker_of(chart, chart.wires[place][0])
    box = chart.boxes[number]
    takes = chart.places_of([name for name, _ in box.takes])
    earlier = [take in round_of and round_of[take] < round_of[place] for take in takes]
    lot = _least_lot(box, at, [worths[take] for take in takes], earlier)
    return tuple([box.takes[index][0] for index in lot])


def reasons_for(chart, ins, name, told=()):
    """Return rows (name, worth, lot) that show why a wire is known."""
    check_sure(chart)
    ins = check_ins(chart, ins, True)
    name = check_wire(chart, name)
    begun = begun_worths(chart, ins, check_told(chart, told))
    rounds, worths = rounds_from(chart, begun)
    round_of = {place: number for number, places in enumerate(rounds) for place in places}
    goal = chart.places_of([name])[0]
    if goal not in round_of:
        raise NotKnown(name)
    lots = {}
    needed = [goal]
    while needed:
        place = needed.pop()
        if place not in lots:
            lots[place] = None if round_of[place] == 0 else _reason_at(chart, place, round_of, worths)
            needed.extend(chart.places_of(lots[place] or ()))
    order = sorted([(round_of[place], place) for place in lots])
    return tuple([(chart.wires[place][0], worths[place], lots[place]) for _, place in order])


def _is_lot(chart, name, lot):
    """Tell whether a thing is None or a sequence of unlike names of the takes of the wire's box."""
    if lot is None:
        return True
    if not is_sequence(lot, 0):
        return False
    maker = maker_of(chart, name)
    free = [] if maker is None else [take for take, _ in chart.boxes[maker[0]].takes]
    for take in lot:
        if not isinstance(take, str) or take not in free:
            return False
        free.remove(take)
    return True


def _are_rows(chart, reasons):
    """Tell whether a thing is a sequence of rows of unlike wires."""
    if not is_sequence(reasons, 1):
        return False
    free = {name: size for name, size in chart.wires}
    for row in reasons:
        if not is_sequence(row, 3, 3) or not isinstance(row[0], str) or row[0] not in free:
            return False
        if not is_whole(row[1], 0, free.pop(row[0]) - 1) or not _is_lot(chart, row[0], row[2]):
            return False
    return True


def _has_untold(chart, begun, reasons):
    """Tell whether some lot is None for what is not told so, or another one for an in or a told letter."""
    for name, worth, lot in reasons:
        place = chart.places_of([name])[0]
        if lot is None and begun[place] != worth:
            return True
        if lot is not None and (name in chart.ins or begun[place] is not None):
            return True
    return False


def _has_later(reasons):
    """Tell whether some lot has a wire that no earlier row has."""
    known = []
    for name, _, lot in reasons:
        for take in lot or ():
            if take not in known:
                return True
        known.append(name)
    return False


def _has_other_entry(chart, reasons):
    """Tell whether some entry agrees with the worths of a lot and has another worth than its row."""
    worths = {name: worth for name, worth, _ in reasons}
    for name, worth, lot in reasons:
        if lot is not None:
            number, at = maker_of(chart, name)
            box = chart.boxes[number]
            known = [worths[take] if take in lot else None for take, _ in box.takes]
            if worths_made(box, agreeing_entries(box, known), at) != [worth]:
                return True
    return False


def reasons_fault(chart, ins, name, reasons, told=()):
    """Return None for rows that show why a wire is known, otherwise the first word that applies."""
    check_sure(chart)
    ins = check_ins(chart, ins, True)
    name = check_wire(chart, name)
    begun = begun_worths(chart, ins, check_told(chart, told))
    if not _are_rows(chart, reasons):
        return "row"
    if _has_untold(chart, begun, reasons):
        return "told"
    if _has_later(reasons):
        return "later"
    if _has_other_entry(chart, reasons):
        return "entry"
    return None if reasons[-1][0] == name else "last"


def _least_in_order(lots):
    """Return those of some lots that hold no earlier one; shorter lots must stand ahead of longer ones."""
    least = []
    for lot in lots:
        if [other for other in least if [name for name in other if name not in lot] == []] == []:
            least.append(lot)
    return tuple(least)


def _told_lots(chart, ins):
    """Return all lots of told ins, by length, then by the places of their ins."""
    names = [name for name, worth in zip(chart.ins, ins) if worth is not None]
    lots = []
    for many in range(len(names) + 1):
        lots.extend(list(combinations(names, many)))
    return lots


def _is_known_by(chart, ins, name, lot):
    """Tell whether the wire is known if the ins of the lot alone are told."""
    told = [worth if other in lot else None for other, worth in zip(chart.ins, ins)]
    _, worths = rounds_from(chart, begun_worths(chart, told, ()))
    return worths[chart.places_of([name])[0]] is not None


def least_lots(chart, ins, name):
    """Return the least lots of told ins that alone make the wire known."""
    check_sure(chart)
    ins = check_ins(chart, ins, True)
    name = check_wire(chart, name)
    return _least_in_order([lot for lot in _told_lots(chart, ins) if _is_known_by(chart, ins, name, lot)])


def withheld_lots(chart, ins, name):
    """Return the least lots of told ins without which the wire is not known."""
    check_sure(chart)
    ins = check_ins(chart, ins, True)
    name = check_wire(chart, name)
    return _least_in_order([lot for lot in _told_lots(chart, ins)
                            if not _is_known_by(chart, ins, name, [other for other in chart.ins if other not in lot])])

"""What is known without any letter, from told ins and told letters alone."""

from alreadytold.charts import all_ins, check_ins, check_sure
from alreadytold.errors import BadTold
from alreadytold.ratios import is_whole
from alreadytold.wires import filling_by_number, is_sequence
from alreadytold.working import begun_filling


def check_told(chart, told):
    """Return couples (letter, worth) of unlike letters in the order of the letters."""
    if not is_sequence(told, 0):
        raise BadTold(0)
    sizes = {name: size for name, size in zip(chart.letters, chart.letter_sizes)}
    worths = {}
    for index, couple in enumerate(told):
        if not is_sequence(couple, 2, 2) or not isinstance(couple[0], str):
            raise BadTold(index)
        name, worth = couple
        if name not in sizes or name in worths or not is_whole(worth, 0, sizes[name] - 1):
            raise BadTold(index)
        worths[name] = worth
    return tuple([(name, worths[name]) for name in chart.letters if name in worths])


def entries_within(sizes, options):
    """Return, ascending, the numbers of the fillings whose worths are all among the ascending options."""
    numbers = [0]
    for size, worths in zip(sizes, options):
        numbers = [number * size + worth for number in numbers for worth in worths]
    return numbers


def agreeing_entries(box, known):
    """Return, ascending, the numbers of the fillings of the takes that agree with what is known (None: not known)."""
    options = [list(range(size)) if worth is None else [worth] for size, worth in zip(box.take_sizes, known)]
    return entries_within(box.take_sizes, options)


def worths_made(box, numbers, at):
    """Return, ascending, the worths that the entries of a sure box with these numbers have for one of its makes."""
    return sorted(set([box.entries[number][0][0][at] for number in numbers]))


def begun_worths(chart, ins, told):
    """Return a list of the worth of each wire that is told, None for all others."""
    worths = begun_filling(chart, ins, ())
    for name, worth in told:
        worths[chart.letter_places[chart.letters.index(name)]] = worth
    return worths


def _next_known(chart, worths):
    """Return (place, worth) for each wire that becomes known from what is known, in the order of the wires."""
    found = []
    for number, takes, makes in chart.steps:
        box = chart.boxes[number]
        if [place for place in makes if worths[place] is None] != []:
            numbers = agreeing_entries(box, [worths[place] for place in takes])
            for at, place in enumerate(makes):
                made = worths_made(box, numbers, at)
                if worths[place] is None and len(made) == 1:
                    found.append((place, made[0]))
    return sorted(found)


def rounds_from(chart, begun):
    """Return the places that become known round by round, round 0 first, and the worths of all wires then."""
    worths = list(begun)
    rounds = [[place for place, worth in enumerate(worths) if worth is not None]]
    found = _next_known(chart, worths)
    while found:
        for place, worth in found:
            worths[place] = worth
        rounds.append([place for place, _ in found])
        found = _next_known(chart, worths)
    return rounds, worths


def _names_at(chart, places):
    return tuple([chart.wires[place][0] for place in places])


def known_rounds(chart, ins, told=()):
    """Return the names of the wires that become known in each round."""
    check_sure(chart)
    ins = check_ins(chart, ins, True)
    rounds, _ = rounds_from(chart, begun_worths(chart, ins, check_told(chart, told)))
    return tuple([_names_at(chart, places) for places in rounds])


def known_worths(chart, ins, told=()):
    """Return for each wire its known worth, or None."""
    check_sure(chart)
    ins = check_ins(chart, ins, True)
    _, worths = rounds_from(chart, begun_worths(chart, ins, check_told(chart, told)))
    return tuple(worths)


def _wave_from(chart, worths):
    """Tell worths all that becomes known without a further letter, and return (place, worth) of the next letters."""
    found = _next_known(chart, worths)
    plain = [(place, worth) for place, worth in found if place not in chart.letter_places]
    while plain:
        for place, worth in plain:
            worths[place] = worth
        found = _next_known(chart, worths)
        plain = [(place, worth) for place, worth in found if place not in chart.letter_places]
    return found


def letter_waves(chart, ins):
    """Return the letters that become known wave by wave, each wave behind one more turn."""
    check_sure(chart)
    worths = begun_worths(chart, check_ins(chart, ins, True), ())
    waves = []
    found = _wave_from(chart, worths)
    while found:
        for place, worth in found:
            worths[place] = worth
        waves.append(_names_at(chart, [place for place, _ in found]))
        found = _wave_from(chart, worths)
    return tuple(waves)


def are_letters_known(chart, worths):
    """Tell whether no letter lacks a known worth."""
    return [place for place in chart.letter_places if worths[place] is None] == []


def first_ungrounded(chart):
    """Return the first ins for which some letter is not known, None if there are none."""
    check_sure(chart)
    for ins in all_ins(chart):
        _, worths = rounds_from(chart, begun_worths(chart, ins, ()))
        if not are_letters_known(chart, worths):
            return ins
    return None


def self_made(chart, ins):
    """Return (name, filling, filling) for each made wire that is not known: two ways in which it can be made."""
    check_sure(chart)
    _, worths = rounds_from(chart, begun_worths(chart, check_ins(chart, ins, True), ()))
    rows = {}
    for number, takes, makes in chart.steps:
        box = chart.boxes[number]
        numbers = agreeing_entries(box, [worths[place] for place in takes])
        for at, place in enumerate(makes):
            if worths[place] is None:
                first = worths_made(box, numbers[:1], at)
                later = [entry for entry in numbers if worths_made(box, [entry], at) != first]
                rows[place] = (chart.wires[place][0], filling_by_number(box.take_sizes, numbers[0]),
                               filling_by_number(box.take_sizes, later[0]))
    return tuple([rows[place] for place in sorted(rows)])

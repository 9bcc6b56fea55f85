"""Whether slipped shares are near others, by rounded numbers and a bound of all that is rounded.

Exact slipped shares of many posts take long, and mostly rounded ones are enough to decide.
All are whole numbers of units, of which 2 ** bits make 1. The slip is 1 / 2 ** halvings.
"""

SPARE_BITS = 100


def _rounded(ratio, bits):
    return (ratio[0] << bits) // ratio[1]


def _rounded_moves(rows, halvings, bits):
    """Return the table of the rows, each entry times 1 less the slip."""
    moves = []
    for bottom, parts in rows:
        row = [0 for _ in rows]
        for number, part in parts:
            units = (part << bits) // bottom
            row[number] = units - (units >> halvings)
        moves.append(row)
    return moves


def _stages_of(moves, begun, bits):
    """Return (what begins, what comes from each number ahead, what leaves) for each number, the last one first.

    A number that is taken out hands on all that comes to it, so the numbers ahead keep their shares.
    """
    stages = []
    while moves:
        last = moves[-1]
        leaves = (1 << bits) - last[-1]
        stages.append((begun[-1], [row[-1] for row in moves[:-1]], leaves))
        leads = [(units << bits) // leaves for units in last[:-1]]
        moves = [[units + (row[-1] * lead >> bits) for units, lead in zip(row, leads)] if row[-1] else row[:-1]
                 for row in moves[:-1]]
        begun = [units + (begun[-1] * lead >> bits) for units, lead in zip(begun, leads)]
    return stages


def _rounded_shares(moves, begun, bits):
    shares = []
    for start, comes, leaves in reversed(_stages_of(moves, begun, bits)):
        whole = sum([share * units for share, units in zip(shares, comes)])
        shares.append(((start << bits) + whole) // leaves)
    return shares


def _most_wrong(moves, begun, shares, halvings, bits):
    """Return a bound, in units, of how far rounded shares are from the exact ones, summed up."""
    many = len(shares)
    rests = [(start - share) << bits for start, share in zip(begun, shares)]
    for share, row in zip(shares, moves):
        rests = [rest + share * units for rest, units in zip(rests, row)]
    wrong = (sum([abs(rest) for rest in rests]) >> bits) + 1
    # Each entry and each beginning was rounded by less than one unit.
    rounding = many * ((sum(shares) >> bits) + 2)
    # What is wrong by a share of the slip in one turn can at most be wrong as a whole in the end.
    return (wrong + rounding) << halvings


def is_surely_near(rows, begun, goal, halvings, within):
    """Tell whether no slipped share differs from its goal by more than within; None if it is too close to tell.

    The rows are those of whole_rows; beginnings and goal are ratios.
    """
    bits = SPARE_BITS + 2 * halvings + within[1].bit_length()
    moves = _rounded_moves(rows, halvings, bits)
    starts = [_rounded(share, bits) >> halvings for share in begun]
    shares = _rounded_shares(moves, starts, bits)
    bound = _most_wrong(moves, starts, shares, halvings, bits) + 2
    limit = _rounded(within, bits)
    apart = max([abs(share - _rounded(ratio, bits)) for share, ratio in zip(shares, goal)])
    if apart + bound <= limit:
        return True
    return False if apart - bound > limit else None

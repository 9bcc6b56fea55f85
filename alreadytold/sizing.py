"""How long the bottoms of shares must be after some turns, so that tops stay as short as can be.

The bottoms of a table's rows are products of powers of coprime numbers. A share that comes by walks
needs of each of these the greatest power that a walk collects; all else cancels.
"""

from math import gcd


def coprime_base(numbers):
    """Return numbers above 1, no two with a common factor, whose products of powers make all the numbers."""
    base = []
    todo = list(numbers)
    while todo:
        number = todo.pop()
        place = 0
        while place < len(base) and number > 1:
            common = gcd(number, base[place])
            if common == 1:
                place += 1
            else:
                # Both are cut up; what they share and the rest are looked at once more.
                todo.extend([common, base.pop(place) // common])
                number = number // common
                place = 0
        if number > 1:
            base.append(number)
    return base


def powers_in(number, base):
    """Return for each number of a coprime base how often it divides the number."""
    powers = []
    for part in base:
        power = 0
        while number % part == 0:
            number = number // part
            power += 1
        powers.append(power)
    return powers


def _product(base, powers):
    whole = 1
    for part, power in zip(base, powers):
        for _ in range(power):
            whole = whole * part
    return whole


def _greater(one, other):
    """Return the greater of two rows at each place."""
    return [max(power, further) for power, further in zip(one, other)]


class Bottoms:
    """The powers that the bottom of the shares of each number needs, all walks so far taken together.

    rows are those of whole_rows. All shares are told over one bottom, which has the powers in common.
    """

    def __init__(self, rows):
        self.rows = rows
        self.base = coprime_base([bottom for bottom, _ in rows])
        self.powers = [powers_in(bottom, self.base) for bottom, _ in rows]
        self.needs = [[0 for _ in self.base] for _ in rows]
        self.common = [0 for _ in self.base]

    def one_turn(self, tops):
        """Return the tops after one turn, and the factor by which their common bottom has grown."""
        needs = [[0 for _ in self.base] for _ in self.rows]
        for top, (_, parts), need, powers in zip(tops, self.rows, self.needs, self.powers):
            if top != 0:
                collected = [power + further for power, further in zip(need, powers)]
                for goal, _ in parts:
                    needs[goal] = _greater(needs[goal], collected)
        common = self.common
        for need in needs:
            common = _greater(common, need)
        growth = [power - less for power, less in zip(common, self.common)]
        self.needs = needs
        self.common = common
        return self._moved(tops, growth), _product(self.base, growth)

    def spare_factors(self):
        """Return for each number what its own bottom does not need of the common one."""
        return [_product(self.base, [power - own for power, own in zip(self.common, need)]) for need in self.needs]

    def _moved(self, tops, growth):
        """Return the tops after one turn, over a bottom that has grown by these powers."""
        after = [0 for _ in tops]
        for top, (_, parts), powers in zip(tops, self.rows, self.powers):
            if top != 0:
                less = _product(self.base, [max(power - more, 0) for power, more in zip(powers, growth)])
                more = _product(self.base, [max(further - power, 0) for power, further in zip(powers, growth)])
                scaled = top // less * more
                for goal, part in parts:
                    after[goal] += scaled * part
        return after

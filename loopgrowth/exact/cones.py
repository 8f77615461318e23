"""Rays of a cone, and the forces that show that there are no others.

The variables are the shares of the columns, numbered first, and the sums of the rows,
numbered behind them. All of them are to be at least 0, and the sums of "equal" rows are 0.
"""

_PATIENCE = 60


class Tableau:
    """Tells some variables, the bound ones, by sums over the other ones, the loose ones.

    scale * bound variable = sum of factor * loose variable, all integers, the scale above 0.
    """

    def __init__(self, factors, wide):
        self.factors = [list(line) for line in factors]
        self.loose = list(range(wide))
        self.bound = [wide + at for at in range(len(factors))]
        self.scale = 1

    def exchange(self, at, to):
        """Makes the bound variable of line `at` loose, and the loose one of column `to` bound."""
        told = self.factors[at]
        pivot = told[to]
        sign = 1 if pivot > 0 else -1
        self.factors = [
            self._turned(told, to, sign) if line == at else self._cleared(self.factors[line], told, to, sign)
            for line in range(len(self.factors))
        ]
        self.scale = sign * pivot
        self.bound[at], self.loose[to] = self.loose[to], self.bound[at]

    def _turned(self, told, to, sign):
        turned = [-sign * factor for factor in told]
        turned[to] = sign * self.scale
        return turned

    def _cleared(self, line, told, to, sign):
        # Every factor is a minor of the first factors, so that the scale divides without rest.
        pivot, own, scale = sign * told[to], sign * line[to], self.scale
        if own == 0:
            return [factor * pivot // scale for factor in line]
        cleared = [(factor * pivot - own * other) // scale for factor, other in zip(line, told)]
        cleared[to] = own
        return cleared


def _fixed_out(tableau, fixed):
    """Makes the fixed variables loose, as long as others are left that can be bound for them."""
    for at in range(len(tableau.bound)):
        if not fixed[tableau.bound[at]]:
            continue
        line = tableau.factors[at]
        places = [to for to in range(len(line)) if line[to] != 0 and not fixed[tableau.loose[to]]]
        if places:
            tableau.exchange(at, places[0])


def _gains(tableau, wanted):
    """For each loose variable the factor of the sum of all wanted variables."""
    gains = [tableau.scale if wanted[variable] else 0 for variable in tableau.loose]
    for variable, line in zip(tableau.bound, tableau.factors):
        if wanted[variable]:
            gains = [gain + factor for gain, factor in zip(gains, line)]
    return gains


def _ray(tableau, to, many):
    """The values of all variables if one loose variable alone is above 0."""
    values = [0 for _ in range(many)]
    values[tableau.loose[to]] = tableau.scale
    for variable, line in zip(tableau.bound, tableau.factors):
        values[variable] = line[to]
    return values


def _next_ray(tableau, fixed, wanted):
    """A ray on which a wanted variable is above 0, or an empty list if there is none."""
    exchanges = 0
    while True:
        gains = _gains(tableau, wanted)
        places = [to for to in range(len(gains)) if not fixed[tableau.loose[to]]]
        rising = [to for to in places if gains[to] > 0]
        if not rising:
            return []
        # All values are 0 until a ray is found. So quick choices could go round forever; the least variables do not.
        quick = exchanges < _PATIENCE
        to = _greatest_place(gains, rising) if quick else _least_place(tableau.loose, rising)
        hindering = [at for at in range(len(tableau.bound))
                     if tableau.factors[at][to] < 0 and not fixed[tableau.bound[at]]]
        if not hindering:
            return _ray(tableau, to, len(fixed))
        at = _calmest_line(tableau, gains, places, to, hindering) if quick else _least_place(tableau.bound, hindering)
        tableau.exchange(at, to)
        exchanges = exchanges + 1


def _least_place(numbers, places):
    return min(places, key=lambda place: numbers[place])


def _greatest_place(numbers, places):
    return max(places, key=lambda place: numbers[place])


def _calmest_line(tableau, gains, places, to, lines):
    """The line behind whose exchange the gains above 0 have the least sum."""
    sums = {at: _gains_behind(tableau.factors[at], gains, places, to) for at in lines}
    return min(lines, key=lambda at: sums[at])


def _gains_behind(line, gains, places, to):
    """The sum of the gains that are above 0 when this line is exchanged for the column `to`."""
    pivot = -line[to]
    left = [gains[place] * pivot + gains[to] * line[place] for place in places]
    return sum([gain for gain in left if gain > 0]) // pivot


def _pressures(tableau, wanted):
    """Factors with which the sum over all variables is 0: above 0 just for the wanted ones."""
    pressures = [tableau.scale if want else 0 for want in wanted]
    for variable, gain in zip(tableau.loose, _gains(tableau, wanted)):
        pressures[variable] = pressures[variable] - gain
    return pressures


def values_and_pressures(words, factors, wide):
    """The values of all variables, and the factors that show why the other ones are 0."""
    fixed = [False for _ in range(wide)] + [word == "equal" for word in words]
    wanted = [not one for one in fixed]
    values = [0 for _ in fixed]
    tableau = Tableau(factors, wide)
    _fixed_out(tableau, fixed)
    ray = _next_ray(tableau, fixed, wanted)
    while ray:
        values = [value + more for value, more in zip(values, ray)]
        wanted = [want and value == 0 for want, value in zip(wanted, values)]
        ray = _next_ray(tableau, fixed, wanted)
    return values, _pressures(tableau, wanted)

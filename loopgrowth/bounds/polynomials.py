"""Polynomials with coefficients that are integers of at least 0."""

from loopgrowth.errors import InvalidNumber, InvalidOperation
from loopgrowth.graphs.checks import check_number
from loopgrowth.values import decimal, is_natural

_MAX_EXPONENT = 20


def _without_zeros(coefficients):
    """The coefficients up to the last one that is not 0."""
    many = len(coefficients)
    while many > 0 and coefficients[many - 1] == 0:
        many = many - 1
    return coefficients[:many]


def _sums(one, two):
    """The coefficients of a sum."""
    many = max(len(one), len(two))
    return [(one[at] if at < len(one) else 0) + (two[at] if at < len(two) else 0) for at in range(many)]


def _products(one, two):
    """The coefficients of a product."""
    many = len(one) + len(two) - 1
    return [sum([one[at] * two[place - at] for at in range(len(one)) if 0 <= place - at < len(two)])
            for place in range(many)]


def _factor(value):
    """The coefficients of what may stand beside a polynomial."""
    if isinstance(value, Polynomial):
        return value.coefficients
    if not is_natural(value):
        raise InvalidOperation("this is no polynomial, and no integer of at least 0")
    return _without_zeros((value,))


def _term(many, power):
    """The text of one coefficient that is not 0, with its power of n."""
    if power == 0:
        return decimal(many)
    times = "" if many == 1 else f"{decimal(many)} "
    return f"{times}n" if power == 1 else f"{times}n^{power}"


def _value(coefficients, n):
    total = 0
    for number in coefficients[::-1]:
        total = total * n + number
    return total


def _slopes(coefficients):
    """The coefficients of the slope."""
    return [at * coefficients[at] for at in range(1, len(coefficients))]


def _least_place(coefficients, goal):
    """The least n at which the value is at least the goal; the degree is at least 1, and 0 is too low."""
    # Without the constant, what is asked for does not hang on a small rest of two great numbers.
    raised, missing = (0,) + coefficients[1:], goal - coefficients[0]
    slopes = _slopes(raised)
    many = _binary_digits(raised, missing)
    if many <= _few_digits(raised):
        return _least_by_halves(raised, missing, many)
    at = _near_place(raised, missing, many)
    step = 1
    # The slopes never fall, so that each step ends where the goal is reached, and from there none goes below it.
    while step != 0:
        step = (_value(raised, at) - missing) // _value(slopes, at)
        at = at - step
    while _value(raised, at - 1) >= missing:
        at = at - 1
    return at


def _binary_digits(coefficients, goal):
    """How many binary digits the least place that reaches the goal has at most."""
    many = goal.bit_length() + 1
    return min([max(many - coefficients[at].bit_length(), 0) // at + 1
                for at in range(1, len(coefficients)) if coefficients[at] > 0])


def _lost_digits(coefficients):
    """A step by the slope doubles the binary digits that are right, but for so many."""
    return len(coefficients).bit_length() + 2


def _few_digits(coefficients):
    """So many binary digits are found one by one."""
    return 3 * _lost_digits(coefficients)


def _near_place(coefficients, goal, many):
    """A place near the least one that reaches the goal; half of its binary digits are looked for first."""
    degree = len(coefficients) - 1
    if degree == 1:
        return 1
    if many <= _few_digits(coefficients):
        return _least_by_halves(coefficients, goal, many + 1)
    lost = _lost_digits(coefficients)
    cut = (many - lost) // 2
    # Of the values those digits are kept that count when `cut` digits of the place are left out.
    less = max(goal.bit_length() - (degree + 1) * (many - cut) - lost, 0)
    coarse = [_shifted(number, cut * at - less) for at, number in enumerate(coefficients)]
    place = _near_place(coarse, goal >> less, many - cut) << cut
    return place - (_value(coefficients, place) - goal) // _value(_slopes(coefficients), place)


def _shifted(number, by):
    return number << by if by > 0 else number >> -by


def _least_by_halves(coefficients, goal, many):
    """The least place that reaches the goal, or the one behind all those with so many binary digits."""
    low, high = 0, 1 << many
    while high - low > 1:
        middle = (low + high) // 2
        if _value(coefficients, middle) >= goal:
            high = middle
        else:
            low = middle
    return high


class Polynomial:
    """A polynomial; it never changes. The coefficient at position k belongs to n ** k."""

    def __init__(self, *coefficients):
        if not all([is_natural(number) for number in coefficients]):
            raise InvalidOperation("the coefficients are no integers of at least 0")
        self._coefficients = _without_zeros(coefficients)

    @classmethod
    def of(cls, coefficients):
        """The polynomial with a tuple of coefficients."""
        if not isinstance(coefficients, tuple):
            raise InvalidOperation("the coefficients are no tuple")
        return cls(*coefficients)

    @property
    def coefficients(self):
        """The coefficients, the last of which is not 0."""
        return self._coefficients

    @property
    def degree(self):
        """The greatest exponent of n, -1 for the polynomial 0."""
        return len(self._coefficients) - 1

    def __call__(self, n):
        check_number(n)
        return _value(self._coefficients, n)

    def __getitem__(self, at):
        if not is_natural(at):
            raise InvalidNumber(at)
        return self._coefficients[at] if at < len(self._coefficients) else 0

    def reach(self, goal):
        """The least n at which the value is at least the goal, or None."""
        check_number(goal)
        if _value(self._coefficients, 0) >= goal:
            return 0
        if self.degree < 1:
            return None
        return _least_place(self._coefficients, goal)

    def __add__(self, other):
        coefficients = _sums(self._coefficients, _factor(other))
        return Polynomial(*coefficients)

    def __radd__(self, other):
        coefficients = _sums(self._coefficients, _factor(other))
        return Polynomial(*coefficients)

    def __mul__(self, other):
        coefficients = _products(self._coefficients, _factor(other))
        return Polynomial(*coefficients)

    def __rmul__(self, other):
        coefficients = _products(self._coefficients, _factor(other))
        return Polynomial(*coefficients)

    def __pow__(self, other):
        if not is_natural(other) or other > _MAX_EXPONENT:
            raise InvalidOperation("the exponent is no integer from 0 to 20")
        coefficients = [1]
        for _ in range(other):
            coefficients = _products(coefficients, self._coefficients)
        return Polynomial(*coefficients)

    def at(self, inner):
        """The polynomial whose value at n is that of this one at the value of the inner one."""
        if not isinstance(inner, Polynomial):
            raise InvalidOperation("this is no polynomial")
        coefficients = []
        for number in self._coefficients[::-1]:
            coefficients = _sums(_products(coefficients, inner.coefficients), [number])
        return Polynomial(*coefficients)

    def __iter__(self):
        return iter(self._coefficients)

    def __len__(self):
        return len(self._coefficients)

    def __bool__(self):
        return bool(self._coefficients)

    def __eq__(self, other):
        return isinstance(other, Polynomial) and self._coefficients == other._coefficients

    def __str__(self):
        terms = [_term(self._coefficients[at], at) for at in range(len(self._coefficients))
                 if self._coefficients[at] > 0]
        return " + ".join(terms[::-1] or ["0"])

"""Polynomials with coefficients that are integers of at least 0."""

from loopgrowth.errors import InvalidNumber, InvalidOperation
from loopgrowth.graphs.checks import check_number
from loopgrowth.values import decimal, is_natural

_MAX_EXPONENT = 20


def _without_zeros(coefficients):
    """The coefficients up to the last one that is not 0."""
    many = len(coefficients)
    while many > 0 and coefficients[many - 1] == 0:
        many = many - 1
    return coefficients[:many]


def _sums(one, two):
    """The coefficients of a sum."""
    many = max(len(one), len(two))
    return [(one[at] if at < len(one) else 0) + (two[at] if at < len(two) else 0) for at in range(many)]


def _products(one, two):
    """The coefficients of a product."""
    many = len(one) + len(two) - 1
    return [sum([one[at] * two[place - at] for at in range(len(one)) if 0 <= place - at < len(two)])
            for place in range(many)]


def _factor(value):
    """The coefficients of what may stand beside a polynomial."""
    if isinstance(value, Polynomial):
        return value.coefficients
    if not is_natural(value):
        raise InvalidOperation("this is no polynomial, and no integer of at least 0")
    return _without_zeros((value,))


def _term(many, power):
    """The text of one coefficient that is not 0, with its power of n."""
    if power == 0:
        return decimal(many)
    times = "" if many == 1 else f"{decimal(many)} "
    return f"{times}n" if power == 1 else f"{times}n^{power}"


class Polynomial:
    """A polynomial; it never changes. The coefficient at position k belongs to n ** k."""

    def __init__(self, *coefficients):
        if not all([is_natural(number) for number in coefficients]):
            raise InvalidOperation("the coefficients are no integers of at least 0")
        self._coefficients = _without_zeros(coefficients)

    @classmethod
    def of(cls, coefficients):
        """The polynomial with a tuple of coefficients."""
        if not isinstance(coefficients, tuple):
            raise InvalidOperation("the coefficients are no tuple")
        return cls(*coefficients)

    @property
    def coefficients(self):
        """The coefficients, the last of which is not 0."""
        return self._coefficients

    @property
    def degree(self):
        """The greatest exponent of n, -1 for the polynomial 0."""
        return len(self._coefficients) - 1

    def __call__(self, n):
        check_number(n)
        return self._worth(n)

    def _worth(self, n):
        total = 0
        for number in self._coefficients[::-1]:
            total = total * n + number
        return total

    def __getitem__(self, at):
        if not is_natural(at):
            raise InvalidNumber(at)
        return self._coefficients[at] if at < len(self._coefficients) else 0

    def reach(self, goal):
        """The least n at which the value is at least the goal, or None."""
        check_number(goal)
        if self._worth(0) >= goal:
            return 0
        if self.degree < 1:
            return None
        # The value at `high` reaches the goal: its power alone has more binary digits.
        low, high = 0, 1 << (goal.bit_length() // self.degree + 1)
        while high - low > 1:
            middle = (low + high) // 2
            if self._worth(middle) >= goal:
                high = middle
            else:
                low = middle
        return high

    def __add__(self, other):
        coefficients = _sums(self._coefficients, _factor(other))
        return Polynomial(*coefficients)

    def __radd__(self, other):
        coefficients = _sums(self._coefficients, _factor(other))
        return Polynomial(*coefficients)

    def __mul__(self, other):
        coefficients = _products(self._coefficients, _factor(other))
        return Polynomial(*coefficients)

    def __rmul__(self, other):
        coefficients = _products(self._coefficients, _factor(other))
        return Polynomial(*coefficients)

    def __pow__(self, other):
        if not is_natural(other) or other > _MAX_EXPONENT:
            raise InvalidOperation("the exponent is no integer from 0 to 20")
        coefficients = [1]
        for _ in range(other):
            coefficients = _products(coefficients, self._coefficients)
        return Polynomial(*coefficients)

    def at(self, inner):
        """The polynomial whose value at n is that of this one at the value of the inner one."""
        if not isinstance(inner, Polynomial):
            raise InvalidOperation("this is no polynomial")
        coefficients = []
        for number in self._coefficients[::-1]:
            coefficients = _sums(_products(coefficients, inner.coefficients), [number])
        return Polynomial(*coefficients)

    def __iter__(self):
        return iter(self._coefficients)

    def __len__(self):
        return len(self._coefficients)

    def __bool__(self):
        return bool(self._coefficients)

    def __eq__(self, other):
        return isinstance(other, Polynomial) and self._coefficients == other._coefficients

    def __str__(self):
        terms = [_term(self._coefficients[at], at) for at in range(len(self._coefficients))
                 if self._coefficients[at] > 0]
        return " + ".join(terms[::-1] or ["0"])

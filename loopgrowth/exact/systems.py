"""Systems of integers: shares that solve them, and forces that show what cannot be."""

from loopgrowth.errors import InvalidNumber, InvalidSystem
from loopgrowth.exact.cones import values_and_pressures
from loopgrowth.values import is_integer, is_natural

MAX_ROWS = 60
MAX_COLUMNS = 20
_MAX_FACTOR = 1000000
_LEAST = "least"
_EQUAL = "equal"
_SHARES = "shares"
_FORCES = "forces"


def is_system(value):
    """Whether the value is a system."""
    if not isinstance(value, tuple) or not 1 <= len(value) <= MAX_ROWS:
        return False
    if not all([_is_row(row) for row in value]):
        return False
    return all([len(numbers) == len(value[0][1]) for _, numbers in value])


def _is_row(value):
    if not _is_pair(value) or value[0] not in (_LEAST, _EQUAL):
        return False
    numbers = value[1]
    if not isinstance(numbers, tuple) or len(numbers) > MAX_COLUMNS:
        return False
    return all([is_integer(number) and -_MAX_FACTOR <= number <= _MAX_FACTOR for number in numbers])


def _is_pair(value):
    return isinstance(value, tuple) and len(value) == 2


def _check_system(system):
    if not is_system(system):
        raise InvalidSystem("this is no system")


def _columns(system):
    """The indices of the columns."""
    return list(range(len(system[0][1])))


def _solved(system):
    """The values of all columns and rows, and the forces on the rows, of one solution."""
    words = [word for word, _ in system]
    wide = len(system[0][1])
    values, pressures = values_and_pressures(words, [numbers for _, numbers in system], wide)
    return values[:wide], values[wide:], pressures[wide:]


def solution(system):
    """A pair of forces and shares that makes all choices of the system."""
    _check_system(system)
    shares, _, forces = _solved(system)
    return tuple(forces), tuple(shares)


def carried_columns(system):
    """The indices of the columns whose shares are above 0 in each solution."""
    _check_system(system)
    shares, _, _ = _solved(system)
    return tuple(at for at, share in enumerate(shares) if share > 0)


def gained_rows(system):
    """The indices of the rows whose sums are above 0 in each solution."""
    _check_system(system)
    _, sums, _ = _solved(system)
    return tuple(at for at, total in enumerate(sums) if total > 0)


def _row_sum(system, row, shares):
    return sum([share * number for share, number in zip(shares, system[row][1])])


def _column_sum(system, column, forces):
    return sum([force * numbers[column] for force, (_, numbers) in zip(forces, system)])


def _are_shares(system, value):
    if not isinstance(value, tuple) or len(value) != len(_columns(system)):
        return False
    return all([is_natural(share) for share in value])


def _are_forces(system, value):
    if not isinstance(value, tuple) or len(value) != len(system):
        return False
    if not all([is_integer(force) for force in value]):
        return False
    return all([force >= 0 or word == _EQUAL for force, (word, _) in zip(value, system)])


def _hold_rows(system, value):
    """Whether these are shares with which no row has a sum that it must not have."""
    if not _are_shares(system, value):
        return False
    sums = [_row_sum(system, row, value) for row in range(len(system))]
    return all([total == 0 or total > 0 and word == _LEAST for total, (word, _) in zip(sums, system)])


def _hold_columns(system, value):
    """Whether these are forces with which no column has a sum above 0."""
    if not _are_forces(system, value):
        return False
    return all([_column_sum(system, column, value) <= 0 for column in _columns(system)])


def _chooses_column(system, column, forces, shares):
    return (shares[column] > 0) != (_column_sum(system, column, forces) < 0)


def _chooses_row(system, row, forces, shares):
    return system[row][0] == _EQUAL or (forces[row] > 0) != (_row_sum(system, row, shares) > 0)


def is_solution(system, value):
    """Whether the value is a solution of the system."""
    _check_system(system)
    if not _is_pair(value):
        return False
    forces, shares = value
    if not _hold_columns(system, forces) or not _hold_rows(system, shares):
        return False
    if not all([_chooses_row(system, row, forces, shares) for row in range(len(system))]):
        return False
    return all([_chooses_column(system, column, forces, shares) for column in _columns(system)])


def _check_column(system, column):
    _check_system(system)
    if not is_integer(column) or not 0 <= column < len(_columns(system)):
        raise InvalidNumber(column)


def _check_row(system, row):
    _check_system(system)
    if not is_integer(row) or not 0 <= row < len(system) or system[row][0] != _LEAST:
        raise InvalidNumber(row)


def alternative(system, column):
    """Shares that carry the column, or forces that show that none do."""
    _check_column(system, column)
    shares, _, forces = _solved(system)
    if shares[column] > 0:
        return _SHARES, tuple(shares)
    return _FORCES, tuple(forces)


def is_alternative(system, column, value):
    """Whether the value is a pair as `alternative` returns them for this column."""
    _check_column(system, column)
    if not _is_pair(value):
        return False
    kind, numbers = value
    if kind == _SHARES:
        return _hold_rows(system, numbers) and numbers[column] > 0
    if kind == _FORCES:
        return _hold_columns(system, numbers) and _column_sum(system, column, numbers) < 0
    return False


def row_alternative(system, row):
    """Shares with which the row has a sum above 0, or forces that show that none do."""
    _check_row(system, row)
    shares, sums, forces = _solved(system)
    if sums[row] > 0:
        return _SHARES, tuple(shares)
    return _FORCES, tuple(forces)


def is_row_alternative(system, row, value):
    """Whether the value is a pair as `row_alternative` returns them for this row."""
    _check_row(system, row)
    if not _is_pair(value):
        return False
    kind, numbers = value
    if kind == _SHARES:
        return _hold_rows(system, numbers) and _row_sum(system, row, numbers) > 0
    if kind == _FORCES:
        return _hold_columns(system, numbers) and numbers[row] > 0
    return False

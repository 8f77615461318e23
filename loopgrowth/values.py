"""The integers and names of which all other values are made."""

_LETTERS = "abcdefghijklmnopqrstuvwxyz"
_MAX_LETTERS = 8
_PIECE_DIGITS = 60
_PIECE = 10 ** 60


def is_integer(value):
    """Whether the value is an integer; True and False are none."""
    return isinstance(value, int) and not isinstance(value, bool)


def is_natural(value):
    """Whether the value is an integer of at least 0."""
    return is_integer(value) and value >= 0


def is_name(value):
    """Whether the value is a string of one to eight lowercase letters."""
    if not isinstance(value, str) or not 1 <= len(value) <= _MAX_LETTERS:
        return False
    return all([letter in _LETTERS for letter in value])


def is_tuple_of_names(value):
    """Whether the value is a tuple that has nothing but names."""
    return isinstance(value, tuple) and all([is_name(name) for name in value])


def is_ascending(values):
    """Whether each of these comparable values is below the next one."""
    return all([values[at] < values[at + 1] for at in range(len(values) - 1)])


def decimal(number):
    """The digits of an integer of at least 0, also of one that is too long for str."""
    pieces = []
    while number >= _PIECE:
        pieces.append(str(number % _PIECE).zfill(_PIECE_DIGITS))
        number = number // _PIECE
    pieces.append(str(number))
    return "".join(pieces[::-1])

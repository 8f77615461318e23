"""Whether items can be walked, and what they do when they are, reckoned without walking them."""

from loopgrowth.values import is_natural

MAX_DEPTH = 60
_LETTERS = "abcdefgh"
_GROUP = 16
# Long rows are looked at in pieces of this length. So the pieces of rows that go round and round are often equal.
_PIECE = 480
# Shorter items are looked at one by one.
_SHORT = 12
# What is joined two by two more often than this is laid anew: laid items are less high, however deep they are nested.
_MAX_HEIGHT = 200
_NOWHERE = ("", "", -1)


class Ground:
    """What a graph tells of its names; only these counters are reckoned."""

    __slots__ = ("ends", "codes", "changes")

    def __init__(self, graph, counters):
        letters = {state: letter for state, letter in zip(graph.states, _LETTERS)}
        told = {name: graph.change(name) for name in graph.names}
        self.ends = {name: (source, target) for name, source, target, _ in graph}
        self.codes = {name: letters[source] + letters[target] for name, source, target, _ in graph}
        self.changes = [{name: told[name][counter] for name in told} for counter in counters]


def times(items, name):
    """How often the name is walked."""
    total = items.count(name)
    for item in items:
        if not isinstance(item, str):
            total = total + item[0] * times(item[1], name)
    return total


def ends_of(ground, items, state, room, depth):
    """Where items begin and end that are walked from a state, and how many elements of `room` they leave.

    The state is "" if they may begin at any; so are both ends, if there is no name in them then. The room that is left
    is below 0 if the value is no items, or if they cannot be walked.
    """
    if not isinstance(items, tuple) or depth > MAX_DEPTH or len(items) > room:
        return _NOWHERE
    start, room = state, room - len(items)
    if len(items) < _SHORT:
        return _walked(ground, items, start, state, room, depth)
    last, ends = (), ()
    for at in range(0, len(items), _PIECE):
        piece = items[at:at + _PIECE]
        if piece != last:
            last, ends = piece, _ends_of_names(ground, piece)
        if ends and state in ("", ends[0]):
            start, state = start or ends[0], ends[1]
        else:
            start, state, room = _walked(ground, piece, start, state, room, depth)
        if room < 0:
            return _NOWHERE
    return start, state, room


def _ends_of_names(ground, piece):
    """Where a piece that is a row of names begins and ends; () if it is none, or if it cannot be walked."""
    try:
        codes = "".join([ground.codes[name] for name in piece if isinstance(name, str)])
    except KeyError:
        return ()
    # The letters of a source and a target for each name: each target has to be the next source.
    if len(codes) != 2 * len(piece) or codes[1:-1:2] != codes[2::2]:
        return ()
    return ground.ends[piece[0]][0], ground.ends[piece[-1]][1]


def _walked(ground, piece, start, state, room, depth):
    """As `ends_of`, element by element, for a piece of items."""
    for item in piece:
        if isinstance(item, str):
            begin, end = ground.ends.get(item, _NOWHERE[:2])
            if begin == "":
                return _NOWHERE
        else:
            begin, end, room = _ends_of_repeat(ground, item, room, depth)
            if room < 0 or begin != end:
                return _NOWHERE
        if begin != "":
            if state not in ("", begin):
                return _NOWHERE
            start, state = start or begin, end
    return start, state, room


def _ends_of_repeat(ground, value, room, depth):
    if not isinstance(value, tuple) or len(value) != 2 or not is_natural(value[0]):
        return _NOWHERE
    return ends_of(ground, value[1], "", room, depth + 1)


class Stretch:
    """A row of transitions, not written out, and what it does to the counters.

    It is a row of names; or several parts, one behind the other; or rounds of one part. The gains are the sums of the
    changes of each counter, the least and the most are the least and the greatest values of these sums on the way.
    `deep` tells how deep repeats are nested, `height` how often parts are joined within one another.
    """

    __slots__ = ("line", "inner", "total", "gains", "least", "most", "deep", "height")

    def __init__(self, line, inner, total, gains, least, most, deep, height):
        self.line = line
        self.inner = inner
        self.total = total
        self.gains = gains
        self.least = least
        self.most = most
        self.deep = deep
        self.height = height

    def name_at(self, at):
        """The name of the transition at this position."""
        stretch = self
        while not stretch.line:
            if len(stretch.inner) == 1:
                stretch = stretch.inner[0]
                at = at % stretch.total
            else:
                place = 0
                while at >= stretch.inner[place].total:
                    at = at - stretch.inner[place].total
                    place = place + 1
                stretch = stretch.inner[place]
        return stretch.line[at]


def _stretch_of(ground, items):
    """The stretch of items that can be walked."""
    if len(items) == 1:
        return _single(ground, items) if isinstance(items[0], str) else _repeat(ground, items[0])
    layer = []
    known = {}
    last, part = (), None
    for at in range(0, len(items), _PIECE):
        piece = items[at:at + _PIECE]
        if piece != last:
            key = piece if _are_strings(piece) else ()
            part = known.get(key)
            if part is None:
                part = _named(ground, piece) if key else _mixed(ground, piece)
            if key:
                known[key] = part
            last = piece
        layer.append(part)
    return _bundled(ground, layer)


def _are_strings(values):
    return len([value for value in values if isinstance(value, str)]) == len(values)


def _single(ground, names):
    """The stretch of a row of one name."""
    gains = tuple([changes[names[0]] for changes in ground.changes])
    least = tuple([gain if gain < 0 else 0 for gain in gains])
    most = tuple([gain if gain > 0 else 0 for gain in gains])
    return Stretch(names, (), 1, gains, least, most, 0, 0)


def _named(ground, names):
    """The stretch of a row of names."""
    sums = [_swing([changes[name] for name in names]) for changes in ground.changes]
    gains, least, most = _unzipped(sums)
    return Stretch(names, (), len(names), gains, least, most, 0, 0)


def _unzipped(sums):
    """The gains, the least and the most by themselves."""
    told = [tuple([one[at] for one in sums]) for at in range(3)]
    return told[0], told[1], told[2]


def _swing(gains):
    """The sum of some numbers, and the least and the greatest of the sums on the way."""
    total = low = high = 0
    for gain in gains:
        total = total + gain
        if total < low:
            low = total
        elif total > high:
            high = total
    return total, low, high


def _mixed(ground, piece):
    """The stretch of a piece that has repeats."""
    layer = []
    known = {}
    for row in _rows(piece):
        single = isinstance(row[0], str)
        many, items = (1, row) if single else row[0]
        key = items if _are_strings(items) else ()
        part = known.get(key)
        if part is None:
            part = _stretch_of(ground, items)
        if key:
            known[key] = part
        layer.append(part if single else _rounds(part, many))
    return _bundled(ground, layer)


def _rows(piece):
    """The rows of names, and as rows of one the repeats, of which the piece is made."""
    rows = []
    begin = 0
    for at, item in enumerate(piece):
        if not isinstance(item, str):
            if begin < at:
                rows.append(piece[begin:at])
            rows.append((item,))
            begin = at + 1
    if begin < len(piece):
        rows.append(piece[begin:])
    return rows


def _repeat(ground, item):
    many, items = item
    return _rounds(_stretch_of(ground, items), many)


def _rounds(part, many):
    """So many rounds of a stretch."""
    if many == 0 or part.total == 0:
        zeros = tuple([0 for _ in part.gains])
        return Stretch((), (), 0, zeros, zeros, zeros, part.deep + 1, 0)
    gains, least, most = part.gains, part.least, part.most
    if many > 1:
        # Between the first round and the last one the sums lie between those of these two.
        least = tuple([low + (many - 1) * gain if gain < 0 else low for low, gain in zip(least, gains)])
        most = tuple([high + (many - 1) * gain if gain > 0 else high for high, gain in zip(most, gains)])
        gains = tuple([many * gain for gain in gains])
    return Stretch((), (part,), many * part.total, gains, least, most, part.deep + 1, part.height)


def _bundled(ground, layer):
    """These stretches, one behind the other, as one."""
    if not layer:
        zeros = tuple([0 for _ in ground.changes])
        return Stretch((), (), 0, zeros, zeros, zeros, 0, 0)
    # Joined by groups, not in one row: so a number with many digits is added to few other ones.
    while len(layer) > 1:
        layer = [_joined(layer[at:at + _GROUP]) for at in range(0, len(layer), _GROUP)]
    return layer[0]


def _joined(group):
    """The same for a group."""
    if len(group) == 1:
        return group[0]
    gains, least, most = _unzipped([_long_swing(group, at) for at in range(len(group[0].gains))])
    total = sum([part.total for part in group])
    deep, height = max([part.deep for part in group]), max([part.height for part in group])
    return Stretch((), tuple(group), total, gains, least, most, deep, height + 1)


def _long_swing(group, at):
    """As `_swing`, for the counter at this place."""
    total = low = high = 0
    for part in group:
        below, above = total + part.least[at], total + part.most[at]
        if below < low:
            low = below
        if above > high:
            high = above
        total = total + part.gains[at]
    return total, low, high


class Laid:
    """Items that can be walked, how many elements they have, their ends, and their stretch."""

    __slots__ = ("written", "many", "source", "target", "stretch")

    def __init__(self, written, many, source, target, stretch):
        self.written = written
        self.many = many
        self.source = source
        self.target = target
        self.stretch = stretch


def laid(graph, items, state, room):
    """These items with at most `room` elements, laid from a state, or from where they begin; None if that cannot be."""
    ground = Ground(graph, graph.counters)
    source, target, left = ends_of(ground, items, state or "", room, 0)
    if left < 0:
        return None
    source = source or graph.states[0]
    return Laid(items, room - left, source, target or source, _stretch_of(ground, items))


def chained(graph, one, two):
    """Two laid items that hang together, one behind the other."""
    written, many = one.written + two.written, one.many + two.many
    stretch = _joined([one.stretch, two.stretch])
    if stretch.height > _MAX_HEIGHT:
        return laid(graph, written, one.source, many)
    return Laid(written, many, one.source, two.target, stretch)


def repeated(one, many):
    """So many rounds of laid items that lead back."""
    return Laid(((many, one.written),), one.many + 1, one.source, one.target, _rounds(one.stretch, many))

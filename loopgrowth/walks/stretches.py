"""What items do when they are walked, reckoned without walking them."""

from loopgrowth.values import is_natural

MAX_DEPTH = 60
_GROUP = 16


def room_behind(value, room, depth):
    """How many of `room` elements are left behind these items; below 0 if the value is no items."""
    if not isinstance(value, tuple) or depth > MAX_DEPTH:
        return -1
    for item in value:
        room = room - 1
        if _is_repeat(item):
            room = room_behind(item[1], room, depth + 1)
        elif not isinstance(item, str):
            return -1
        if room < 0:
            return -1
    return room


def _is_repeat(value):
    return isinstance(value, tuple) and len(value) == 2 and is_natural(value[0])


def first_name(items):
    """The first name that is written in the items, or "" if there is none."""
    for item in items:
        name = item if isinstance(item, str) else first_name(item[1])
        if name != "":
            return name
    return ""


def times(items, name):
    """How often the name is walked."""
    total = 0
    for item in items:
        if isinstance(item, str):
            total = total + (1 if item == name else 0)
        else:
            total = total + item[0] * times(item[1], name)
    return total


def target_of(graph, items, state):
    """The state to which the items lead from this one, or "" if they cannot be walked from it."""
    for item in items:
        if isinstance(item, str):
            if item not in graph or graph[item][1] != state:
                return ""
            state = graph[item][2]
        elif target_of(graph, item[1], state) != state:
            return ""
    return state


class Stretch:
    """A row of transitions, not written out, and what it does to the counters.

    It is one transition with a name; or several parts, one behind the other; or rounds of one part.
    The gains are the sums of the changes of each counter, the least and the most are the least and
    the greatest values of these sums on the way.
    """

    __slots__ = ("name", "inner", "total", "gains", "least", "most")

    def __init__(self, name, inner, total, gains, least, most):
        self.name = name
        self.inner = inner
        self.total = total
        self.gains = gains
        self.least = least
        self.most = most

    def name_at(self, at):
        """The name of the transition at this position."""
        stretch = self
        while stretch.name == "":
            if len(stretch.inner) == 1:
                stretch = stretch.inner[0]
                at = at % stretch.total
            else:
                place = 0
                while at >= stretch.inner[place].total:
                    at = at - stretch.inner[place].total
                    place = place + 1
                stretch = stretch.inner[place]
        return stretch.name


def stretch_of(graph, items):
    """The stretch of items that can be walked."""
    singles = {name: _single(name, tuple(graph.change(name).values())) for name in graph.names}
    zeros = tuple(0 for _ in graph.counters)
    return _laid(singles, items, Stretch("", (), 0, zeros, zeros, zeros))


def _single(name, gains):
    return Stretch(name, (), 1, gains, tuple([min(0, gain) for gain in gains]), tuple([max(0, gain) for gain in gains]))


def _laid(singles, items, nothing):
    layer = [singles[item] if isinstance(item, str) else _rounds(_laid(singles, item[1], nothing), item[0], nothing)
             for item in items]
    # Joined by groups, not in one row: so a number with many digits is added to few other ones.
    while len(layer) > 1:
        layer = [_joined(layer[at:at + _GROUP], nothing) for at in range(0, len(layer), _GROUP)]
    return layer[0] if layer else nothing


def _joined(group, nothing):
    """These stretches, one behind the other."""
    if len(group) == 1:
        return group[0]
    total, gains, least, most = 0, nothing.gains, nothing.least, nothing.most
    for part in group:
        total = total + part.total
        least = [min(low, gain + more) for low, gain, more in zip(least, gains, part.least)]
        most = [max(high, gain + more) for high, gain, more in zip(most, gains, part.most)]
        gains = [gain + more for gain, more in zip(gains, part.gains)]
    return Stretch("", tuple(group), total, tuple(gains), tuple(least), tuple(most))


def _rounds(part, many, nothing):
    """So many rounds of a stretch."""
    if many == 0:
        return nothing
    # Between the first round and the last one the sums lie between those of these two.
    last = [(many - 1) * gain for gain in part.gains]
    return Stretch(
        "", (part,), many * part.total,
        tuple([many * gain for gain in part.gains]),
        tuple([low + min(0, more) for low, more in zip(part.least, last)]),
        tuple([high + max(0, more) for high, more in zip(part.most, last)]),
    )

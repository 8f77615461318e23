"""Levels: the exponents of what grows like a power."""

from loopgrowth.errors import InvalidNumber, InvalidOperation
from loopgrowth.graphs.checks import check_graph
from loopgrowth.graphs.parts import components
from loopgrowth.levels.balances import Balance
from loopgrowth.levels.ranks import free
from loopgrowth.values import is_natural


class Ascent:
    """The way up through the levels of a graph, one meeting after the other, and what it has found so far.

    The ranks are those of the free things, `bounded` are the other counters, and `kept` are the transitions T(0), T(1)
    .. of the document.
    """

    def __init__(self, graph, ranks):
        self._graph = graph
        self.ranks = ranks
        self.bounded = tuple(counter for counter in graph.counters if counter not in ranks)
        self.kept = [graph.names]
        self.meetings = []
        self.found = {}
        self.ended = False

    def balance(self):
        """The balance of the next level."""
        return Balance(self._graph, self.kept[-1], {counter: self._parts_of(counter) for counter in self.bounded})

    def _parts_of(self, counter):
        if counter not in self.found:
            return (self._graph.states,)
        return components(self._graph, self.kept[-self.found[counter]])

    def climb(self, meeting):
        """Goes one level up by a meeting of its balance, and returns the transitions and counters that it finds."""
        weights, _, amounts = meeting
        level = len(self.kept)
        names = tuple(name for name in self.kept[-1] if amounts[name] == 0)
        counters = tuple(counter for counter in self.bounded
                         if counter not in self.found and weights[counter, self._graph.states] > 0)
        self.ended = not names and not counters and level >= self._reach()
        for thing in names + counters:
            self.found[thing] = level
        self.kept.append(tuple(name for name in self.kept[-1] if amounts[name] > 0))
        self.meetings.append(meeting)
        return names, counters

    def _reach(self):
        """The sum of the greatest exponent of a counter and that of a transition."""
        counters = [self.found[thing] for thing in self.found if thing in self.bounded]
        names = [self.found[thing] for thing in self.found if thing in self._graph]
        return max(counters, default=0) + max(names, default=0)

    def exponents(self):
        """A dict from all things that have been found to their levels."""
        return {thing: self.found[thing] for thing in sorted(list(self.found))}

    def left(self):
        """The transitions that are carried, and the counters that are not free and have not been found."""
        return self.kept[-1], tuple(counter for counter in self.bounded if counter not in self.found)


def climbed(graph, ranks):
    """The ascent behind the last level; the ranks are those of all free things."""
    ascent = Ascent(graph, ranks)
    while not ascent.ended:
        ascent.climb(ascent.balance().meeting())
    return ascent


def climbed_by(graph, ranks, paper):
    """The ascent by the meetings of a levels paper, or None if the value is none."""
    if not isinstance(paper, tuple):
        return None
    ascent = Ascent(graph, ranks)
    for meeting in paper:
        if ascent.ended or not ascent.balance().is_meeting(meeting):
            return None
        ascent.climb(meeting)
    return ascent if ascent.ended else None


def levels(graph):
    """The transitions and the counters that each level finds, from level 1 to the last one."""
    check_graph(graph)
    ascent = Ascent(graph, free(graph))
    while not ascent.ended:
        yield ascent.climb(ascent.balance().meeting())


def exponents(graph):
    """A dict from all things that are found to their levels."""
    return climbed(graph, free(graph)).exponents()


def rest(graph):
    """The transitions that are carried at the last level, and the counters without an exponent that are not free."""
    return climbed(graph, free(graph)).left()


def level_balance(graph, level):
    """The balance of a level."""
    check_graph(graph)
    if not is_natural(level):
        raise InvalidNumber(level)
    ascent = Ascent(graph, free(graph))
    while not ascent.ended:
        balance = ascent.balance()
        if len(ascent.kept) == level:
            return balance
        ascent.climb(balance.meeting())
    raise InvalidNumber(level)


def levels_paper(graph):
    """The meetings of all levels, from level 1 to the last one."""
    return tuple(climbed(graph, free(graph)).meetings)


def is_levels_paper(graph, value):
    """Whether the value is meetings of all levels, from level 1 to the last one."""
    check_graph(graph)
    return climbed_by(graph, free(graph), value) is not None


def exponents_of(graph, paper):
    """The exponents that a levels paper shows."""
    return checked_ascent(graph, paper).exponents()


def checked_ascent(graph, paper):
    """The ascent by a levels paper."""
    check_graph(graph)
    ascent = climbed_by(graph, free(graph), paper)
    if ascent is None:
        raise InvalidOperation("this is no levels paper")
    return ascent

"""Levels: the exponents of what grows like a power."""

from loopgrowth.errors import InvalidNumber, InvalidOperation
from loopgrowth.graphs.checks import check_graph
from loopgrowth.levels.balances import Balance
from loopgrowth.levels.ladders import finished, is_shown_by, levels_for, meetings_of
from loopgrowth.levels.ranks import free_ranks
from loopgrowth.values import is_natural


def ascent_of(graph):
    """All levels of a graph; they are kept with it, and not to be changed."""
    return finished(levels_for(graph, free_ranks(graph)))


def levels(graph):
    """The transitions and the counters that each level finds, from level 1 to the last one."""
    check_graph(graph)
    for found in ascent_of(graph).finds:
        yield found


def exponents(graph):
    """A dict from all things that are found to their levels."""
    check_graph(graph)
    return _exponents_by(ascent_of(graph))


def _exponents_by(ascent):
    return {thing: ascent.found[thing] for thing in sorted(list(ascent.found))}


def rest(graph):
    """The transitions that are carried at the last level, and the counters without an exponent that are not free."""
    check_graph(graph)
    return ascent_of(graph).left()


def level_balance(graph, level):
    """The balance of a level."""
    check_graph(graph)
    if not is_natural(level) or level == 0:
        raise InvalidNumber(level)
    balances = ascent_of(graph).balances
    if level > len(balances):
        raise InvalidNumber(level)
    return Balance(graph, balances[level - 1].among, balances[level - 1])


def levels_paper(graph):
    """The meetings of all levels, from level 1 to the last one."""
    check_graph(graph)
    return meetings_of(ascent_of(graph))


def is_levels_paper(graph, value):
    """Whether the value is meetings of all levels, from level 1 to the last one."""
    check_graph(graph)
    # There is always a level 1, so that nothing has to be searched for where there is no meeting.
    return isinstance(value, tuple) and len(value) > 0 and is_shown_by(levels_for(graph, free_ranks(graph)), value)


def exponents_of(graph, paper):
    """The exponents that a levels paper shows."""
    check_levels_paper(graph, paper)
    return _exponents_by(ascent_of(graph))


def check_levels_paper(graph, paper):
    """Raises an error unless this is a levels paper."""
    if not is_levels_paper(graph, paper):
        raise InvalidOperation("this is no levels paper")

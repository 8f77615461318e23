"""Ladders: balances each of which is laid by a meeting of the one before it, and the sums by which meetings are judged.

All meetings of a balance agree about what falls and what is gained. So a ladder is the same by whichever meetings it is
laid, and it is kept with its graph.
"""

from loopgrowth.exact.cones import values_and_pressures
from loopgrowth.graphs.graphs import keep, kept
from loopgrowth.graphs.parts import components
from loopgrowth.values import is_integer

_LEVELS = "levels"


class Sums:
    """A balance of a graph that is known to be one, and its sums.

    `among` are its transitions, `pieces` the parts of its counters, `lines` its rows. `moves` has for each transition
    the places of its source and its target, and pairs of a row's place and a change; `effects` has for each row pairs
    of a transition's place and a change.
    """

    __slots__ = ("base", "among", "pieces", "lines", "moves", "effects", "solved")

    def __init__(self, graph, names, parts):
        self.base = graph
        self.among = names
        self.pieces = parts
        self.lines = tuple((counter, part) for counter in parts for part in parts[counter])
        self.moves = _moves(graph, names, self.lines)
        self.effects = [[] for _ in self.lines]
        for at, (_, _, changes) in enumerate(self.moves):
            for line, amount in changes:
                self.effects[line].append((at, amount))
        self.solved = None

    def meeting(self):
        """Weights, offsets and amounts that make all choices of the balance."""
        if self.solved is None:
            self.solved = self._solution()
        forces, shares = self.solved
        many = len(self.lines)
        return (
            {line: force for line, force in zip(self.lines, forces)},
            {state: force for state, force in zip(self.base.states, forces[many:])},
            {name: share for name, share in zip(self.among, shares)},
        )

    def _solution(self):
        """The forces on the rows and on the states, and the shares of the transitions."""
        wide = len(self.among)
        rows = [[0 for _ in range(wide)] for _ in range(len(self.lines) + len(self.base.states))]
        for at, (source, target, changes) in enumerate(self.moves):
            for line, amount in changes:
                rows[line][at] = amount
            if source != target:
                rows[len(self.lines) + source][at] = -1
                rows[len(self.lines) + target][at] = 1
        words = ["least" for _ in self.lines] + ["equal" for _ in self.base.states]
        values, pressures = values_and_pressures(words, rows, wide)
        return pressures[wide:], values[:wide]

    def is_meeting(self, value):
        """Whether the value is a meeting."""
        if not isinstance(value, tuple) or len(value) != 3:
            return False
        weights = _numbers_of(self.lines, value[0])
        offsets = _numbers_of(self.base.states, value[1])
        amounts = _numbers_of(self.among, value[2])
        if weights is None or offsets is None or amounts is None or not self._is_circulation(amounts):
            return False
        falls = [offsets[source] - offsets[target] - sum([weights[line] * amount for line, amount in changes])
                 for source, target, changes in self.moves]
        gains = [sum([amounts[at] * amount for at, amount in entries]) for entries in self.effects]
        return _are_choices(falls, amounts) and _are_choices(gains, weights)

    def _is_circulation(self, amounts):
        """Whether as much comes to each state as goes from it."""
        rests = [0 for _ in self.base.states]
        for (source, target, _), amount in zip(self.moves, amounts):
            rests[source] = rests[source] - amount
            rests[target] = rests[target] + amount
        return not any(rests)

    def fall(self, meeting, name):
        """The fall of a transition."""
        weights, offsets, _ = meeting
        source, target, changes = self.moves[self.among.index(name)]
        states = self.base.states
        lost = sum([weights[self.lines[line]] * amount for line, amount in changes])
        return offsets[states[source]] - offsets[states[target]] - lost

    def gain(self, meeting, line):
        """The effect on the counter of a row within its part."""
        _, _, amounts = meeting
        return sum([amounts[self.among[at]] * amount for at, amount in self.effects[self.lines.index(line)]])


def _moves(graph, names, lines):
    """For each name the places of its source and its target, and the places of the rows that it changes."""
    places = {state: at for at, state in enumerate(graph.states)}
    rows = {(counter, state): at for at, (counter, part) in enumerate(lines) for state in part}
    moves = []
    for name in names:
        _, source, target, change = graph[name]
        changes = [(rows[counter, source], amount) for counter, amount in change
                   if (counter, source) in rows and rows[counter, source] == rows.get((counter, target))]
        moves.append((places[source], places[target], changes))
    return moves


def _numbers_of(keys, value):
    """The integers of a dict from just these keys, in their order, or None."""
    if not isinstance(value, dict) or len(value) != len(keys):
        return None
    numbers = [value.get(key) for key in keys]
    return numbers if all([is_integer(number) for number in numbers]) else None


def _are_choices(ones, others):
    """Whether of each pair none is below 0, and just one is above it."""
    return all([one >= 0 <= other and (one > 0) != (other > 0) for one, other in zip(ones, others)])


class Rounds:
    """The rounds for some counters. Behind the last one, `shown` are the transitions and the counters that it shows."""

    __slots__ = ("base", "looked_at", "balances", "ended", "shown")

    def __init__(self, graph, counters):
        self.base = graph
        self.looked_at = counters
        self.balances = [self._balance(graph.names)]
        self.ended = False
        self.shown = ()

    def _balance(self, names):
        parts = components(self.base, names)
        return Sums(self.base, names, {counter: parts for counter in self.looked_at})

    def climb(self, meeting):
        """Goes on by a meeting of the last balance so far."""
        weights, _, amounts = meeting
        among = self.balances[-1].among
        carried = tuple(name for name in among if amounts[name] > 0)
        if carried == among:
            self.ended = True
            self.shown = (carried, tuple(sorted({counter for counter, part in weights if weights[counter, part] == 0})))
        else:
            self.balances.append(self._balance(carried))


class Ascent:
    """The levels of a graph; the ranks are those of its free things, `bounded` are the other counters.

    `kept` are the transitions T(0), T(1) .. of the document, `pieces` their components. `finds` has what each level
    finds, `found` the exponents of all things that have been found.
    """

    __slots__ = ("base", "ranks", "bounded", "kept", "pieces", "balances", "finds", "found", "ended")

    def __init__(self, graph, ranks):
        self.base = graph
        self.ranks = ranks
        self.bounded = tuple(counter for counter in graph.counters if counter not in ranks)
        self.kept = [graph.names]
        self.pieces = [components(graph, graph.names)]
        self.finds = []
        self.found = {}
        self.ended = False
        self.balances = [self._balance()]

    def _balance(self):
        """The balance of the next level."""
        return Sums(self.base, self.kept[-1], {counter: self._parts_of(counter) for counter in self.bounded})

    def _parts_of(self, counter):
        if counter not in self.found:
            return (self.base.states,)
        return self.pieces[len(self.kept) - self.found[counter]]

    def climb(self, meeting):
        """Goes one level up by a meeting of the last balance so far."""
        weights, _, amounts = meeting
        level = len(self.kept)
        names = tuple(name for name in self.kept[-1] if amounts[name] == 0)
        counters = tuple(counter for counter in self.bounded
                         if counter not in self.found and weights[counter, self.base.states] > 0)
        self.ended = not names and not counters and level >= self._reach()
        for thing in names + counters:
            self.found[thing] = level
        self.finds.append((names, counters))
        self.kept.append(tuple(name for name in self.kept[-1] if amounts[name] > 0))
        self.pieces.append(components(self.base, self.kept[-1]) if names else self.pieces[-1])
        if not self.ended:
            self.balances.append(self._balance())

    def _reach(self):
        """The sum of the greatest exponent of a counter and that of a transition."""
        counters = [self.found[thing] for thing in self.found if thing in self.bounded]
        names = [self.found[thing] for thing in self.found if thing in self.base]
        return max(counters, default=0) + max(names, default=0)

    def left(self):
        """The transitions that are carried, and the counters that are not free and have not been found."""
        return self.kept[-1], tuple(counter for counter in self.bounded if counter not in self.found)


def finished(ladder):
    """The ladder, laid to its end by meetings of its own."""
    while not ladder.ended:
        ladder.climb(ladder.balances[-1].meeting())
    return ladder


def meetings_of(ladder):
    """Meetings of all balances of a ladder that has been laid to its end."""
    return tuple(balance.meeting() for balance in ladder.balances)


def is_shown_by(ladder, paper):
    """Whether the value is meetings of all balances of the ladder; if it is, the ladder is laid to its end by them."""
    if not isinstance(paper, tuple):
        return False
    for at, meeting in enumerate(paper):
        if at == len(ladder.balances) or not ladder.balances[at].is_meeting(meeting):
            return False
        if at == len(ladder.balances) - 1 and not ladder.ended:
            ladder.climb(meeting)
    return ladder.ended and len(paper) == len(ladder.balances)


def rounds_for(graph, counters):
    """The rounds of a graph for some counters, as far as they have been laid."""
    told = tuple(counter for counter in graph.counters if counter in counters)
    word = " ".join(["rounds", *told])
    return kept(graph, word) or keep(graph, word, Rounds(graph, told))


def levels_for(graph, ranks):
    """The levels of a graph, as far as they have been laid; the ranks are those of its free things."""
    return kept(graph, _LEVELS) or keep(graph, _LEVELS, Ascent(graph, ranks))

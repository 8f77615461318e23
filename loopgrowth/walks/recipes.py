"""Recipes: long rows of transitions, written down by repeats."""

from loopgrowth.errors import InvalidNumber, InvalidOperation, InvalidRecipe, NotEnough
from loopgrowth.graphs.checks import check_amounts, check_counter, check_graph, check_name, check_state
from loopgrowth.graphs.parts import check_circulation, components, packed, rotated
from loopgrowth.values import decimal, is_natural
from loopgrowth.walks.stretches import MAX_DEPTH, Ground, Laid, chained, ends_of, laid, repeated, times

MAX_ITEMS = 100000


def is_items(graph, state, value):
    """Whether the value is items that can be walked from this state."""
    check_graph(graph)
    check_state(graph, state)
    _, _, left = ends_of(Ground(graph, ()), value, state, MAX_ITEMS, 0)
    return left >= 0


def _check_start(graph, start):
    if start is not None:
        check_state(graph, start)


def _check_room(many, deep):
    """Raises an error if items have more elements, or are nested deeper, than they may be."""
    if many > MAX_ITEMS or deep > MAX_DEPTH:
        raise InvalidRecipe("too many elements, or repeats that are nested too deep")


class Recipe:
    """The row of transitions that some items walk from a state; it never changes."""

    def __init__(self, graph, *items, start=None):
        check_graph(graph)
        _check_start(graph, start)
        # Recipes that are made of others pass what is known of their items, so that these are not laid once more.
        known = len(items) == 1 and isinstance(items[0], Laid)
        told = items[0] if known else laid(graph, items, start, MAX_ITEMS)
        if told is None:
            raise InvalidRecipe("these are no items that can be walked")
        self._graph = graph
        self._laid = told
        self._stretch = told.stretch

    @classmethod
    def of(cls, graph, items, start=None):
        """The recipe of a tuple of items."""
        check_graph(graph)
        _check_start(graph, start)
        told = laid(graph, items, start, MAX_ITEMS)
        if told is None:
            raise InvalidRecipe("these are no items that can be walked")
        return cls(graph, told)

    @property
    def graph(self):
        """The graph."""
        return self._graph

    @property
    def row(self):
        """The items."""
        return self._laid.written

    @property
    def start(self):
        """The state at which the recipe starts."""
        return self._laid.source

    @property
    def end(self):
        """The state to which the recipe leads."""
        return self._laid.target

    @property
    def length(self):
        """The number of transitions that are walked."""
        return self._stretch.total

    @property
    def effect(self):
        """The sums of the changes of each counter."""
        return self._by_counter(self._stretch.gains)

    @property
    def needs(self):
        """The least values at the beginning with which no counter falls below 0."""
        return self._by_counter([-low for low in self._stretch.least])

    def _by_counter(self, numbers):
        return {counter: number for counter, number in zip(self._graph.counters, numbers)}

    def taken(self, name):
        """How often the transition is walked."""
        check_name(self._graph, name)
        return times(self.row, name)

    def highest(self, counter):
        """The greatest sum of changes of the counter at any moment."""
        check_counter(self._graph, counter)
        return self._stretch.most[self._graph.counters.index(counter)]

    def after(self, loads):
        """The values behind the recipe, if it is walked with these values."""
        if not self._are_loads(loads):
            raise InvalidOperation("these are no values of the counters")
        needs, gains = self.needs, self.effect
        for counter in self._graph.counters:
            if loads[counter] < needs[counter]:
                raise NotEnough(counter)
        return {counter: loads[counter] + gains[counter] for counter in self._graph.counters}

    def _are_loads(self, value):
        if not isinstance(value, dict) or len(value) != len(self._graph.counters):
            return False
        return all([counter in value and is_natural(value[counter]) for counter in self._graph.counters])

    def __add__(self, other):
        if not isinstance(other, Recipe) or other._graph != self._graph or other.start != self.end:
            raise InvalidOperation("this is no recipe that goes on where the first one ends")
        _check_room(self._laid.many + other._laid.many, 0)
        return Recipe(self._graph, chained(self._graph, self._laid, other._laid))

    def __mul__(self, other):
        if self.end != self.start or not is_natural(other):
            raise InvalidOperation("only a recipe that leads back can be repeated, and only so many times")
        _check_room(self._laid.many + 1, self._stretch.deep + 1)
        return Recipe(self._graph, repeated(self._laid, other))

    def walk(self):
        """The names of the recipe, one by one."""
        at = 0
        while at < self._stretch.total:
            yield self._stretch.name_at(at)
            at = at + 1

    def __getitem__(self, at):
        if not is_natural(at) or at >= self._stretch.total:
            raise InvalidNumber(at)
        return self._stretch.name_at(at)

    def __iter__(self):
        raise TypeError("a recipe is walked by its method walk")

    def __bool__(self):
        return bool(self._stretch.total > 0)

    def __eq__(self, other):
        return (isinstance(other, Recipe) and self._graph == other._graph and self.start == other.start
                and self._laid.written == other._laid.written)

    def __str__(self):
        many = decimal(self._stretch.total)
        return f"recipe of {many} transitions from {self.start} to {self.end}"


def circuit(graph, amounts, state):
    """A recipe from this state back to it that takes each transition as often as the amounts say."""
    check_graph(graph)
    check_amounts(graph, amounts)
    check_state(graph, state)
    check_circulation(graph, amounts)
    support = tuple(name for name in graph.names if amounts.get(name, 0) > 0)
    parts = components(graph, support)
    if support and (len(parts) > 1 or state not in parts[0]):
        raise InvalidOperation("the transitions do not hang together at this state")
    return Recipe.of(graph, round_trip(graph, amounts, state, {}), state)


def round_trip(graph, amounts, state, stops):
    """Items from this state back to it that take each transition as often as the amounts say.

    The transitions with more than 0 hang together there. `stops` is a dict from some of their states to items that are
    put in where the state is met first; none of these are put into a repeat.
    """
    return tuple(_round_trip(graph, state, list(packed(graph, amounts)), dict(stops)))


def _round_trip(graph, state, waiting, stops):
    """Items from this state back to it that walk all waiting cycles that hang together with it."""
    here = [(cycle, many) for cycle, many in waiting if state in _sources(graph, cycle)]
    for pair in here:
        waiting.remove(pair)
    items = list(stops.pop(state, ()))
    for cycle, many in here:
        turned = rotated(cycle, _sources(graph, cycle).index(state))
        items.append((many - 1, turned))
        # The last round is written out, so that there is a place for what hangs on its states.
        for name in turned:
            items.append(name)
            items.extend(_round_trip(graph, graph[name][2], waiting, stops))
    return items


def _sources(graph, names):
    return [graph[name][1] for name in names]

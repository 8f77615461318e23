"""A workshop: graphs under names, edited in steps that can be taken back, and watches that tell what has changed."""

from loopgrowth.errors import InvalidEdit, InvalidOperation, NothingToUndo, TooMany, UnknownName
from loopgrowth.graphs.checks import check_number, check_thing
from loopgrowth.graphs.graphs import Graph, is_transition
from loopgrowth.levels.growths import growths
from loopgrowth.values import is_name

MAX_GRAPHS = 20
_PUT = "put"
_SET = "set"
_DROP = "drop"
_ADD = "add"
_CUT = "cut"


def _is_edit(value):
    """Whether the value has the form of an edit."""
    if not isinstance(value, tuple) or not 2 <= len(value) <= 3 or not is_name(value[1]):
        return False
    if len(value) == 2:
        return value[0] == _DROP
    if value[0] in (_PUT, _SET):
        return isinstance(value[2], Graph)
    return value[0] == _ADD and is_transition(value[2]) or value[0] == _CUT and is_name(value[2])


def _edited(graphs, edit):
    """The graphs behind an edit."""
    if not _is_edit(edit):
        raise InvalidEdit("this is no edit")
    kind, name = edit[:2]
    if (kind == _PUT) == (name in graphs):
        raise InvalidEdit("there is such a graph already, or there is none")
    if kind == _PUT and len(graphs) == MAX_GRAPHS:
        raise TooMany(MAX_GRAPHS)
    if kind == _DROP:
        return {other: graphs[other] for other in graphs if other != name}
    return {**graphs, name: _edited_graph(graphs, edit)}


def _edited_graph(graphs, edit):
    """The graph that an edit leaves under its name."""
    kind, name, told = edit
    if kind == _ADD:
        if told[0] in graphs[name]:
            raise InvalidEdit("there is such a transition already")
        return graphs[name].with_transitions(told)
    if kind == _CUT:
        if told not in graphs[name]:
            raise InvalidEdit("there is no such transition")
        return graphs[name].without(told)
    return told


def _growth_in(graphs, watch):
    """The state of a watch: a growth, or None."""
    name, thing = watch
    graph = graphs.get(name)
    return None if graph is None else growths(graph).get(thing)


class Version:
    """All that a workshop has at one moment; it never changes.

    `history` has pairs of a step and the graphs behind it, also those that have been taken back; `made` of them are in
    effect. `before` are the graphs ahead of the last change.
    """

    __slots__ = ("history", "made", "before", "pairs", "graphs", "order")

    def __init__(self, history, made, before, pairs):
        self.history = history
        self.made = made
        self.before = before
        self.pairs = pairs
        self.graphs = history[made - 1][1] if made > 0 else {}
        self.order = tuple(sorted(list(self.graphs)))


class Held:
    """A version to which a block goes back, and what the block held before."""

    __slots__ = ("version", "earlier")

    def __init__(self, version, earlier):
        self.version = version
        self.earlier = earlier


class Block:
    """A block at whose end a workshop is as at its beginning."""

    def __init__(self, workshop):
        self._workshop = workshop
        self._held = None

    def __enter__(self):
        self._held = Held(self._workshop._now, self._held)
        return self._workshop

    def __exit__(self, kind, value, trace):
        self._workshop._now = self._held.version
        self._held = self._held.earlier


class Workshop:
    """Graphs under names. All results hang on the present graphs alone."""

    def __init__(self):
        self._now = Version((), 0, {}, ())

    @property
    def names(self):
        """The names of the graphs, ascending."""
        return self._now.order

    @property
    def log(self):
        """The steps in effect."""
        return tuple(step for step, _ in self._now.history[:self._now.made])

    @property
    def watches(self):
        """The pairs that are watched, ascending."""
        return self._now.pairs

    def __getitem__(self, at):
        if at not in self:
            raise UnknownName(at)
        return self._now.graphs[at]

    def __contains__(self, x):
        return isinstance(x, str) and x in self._now.graphs

    def __len__(self):
        return len(self._now.graphs)

    def __iter__(self):
        return iter(self._now.order)

    def __eq__(self, other):
        return isinstance(other, Workshop) and self._now.graphs == other._now.graphs

    def __str__(self):
        return f"workshop of {len(self._now.graphs)} graphs, {self._now.made} steps"

    def growth(self, name, thing):
        """The growth of a thing in the graph with this name."""
        graph = self[name]
        check_thing(graph, thing)
        return growths(graph)[thing]

    def make(self, *edits):
        """Makes these edits as one step, and returns how many steps are in effect."""
        return self.make_all(edits)

    def make_all(self, step):
        """Makes a tuple of edits as one step, all or none, and returns how many steps are in effect."""
        if not isinstance(step, tuple) or not step:
            raise InvalidEdit("a step is a tuple of one or more edits")
        now = self._now
        graphs = now.graphs
        for edit in step:
            graphs = _edited(graphs, edit)
        return self._changed(now.history[:now.made] + ((step, graphs),), now.made + 1)

    def _changed(self, history, made):
        """Goes on with this history, so many steps of it in effect, and returns how many these are."""
        self._now = Version(history, made, self._now.graphs, self._now.pairs)
        return made

    def undo(self, *, many=1):
        """Takes the last steps back, and returns how many are in effect."""
        check_number(many)
        if many > self._now.made:
            raise NothingToUndo(many)
        return self._changed(self._now.history, self._now.made - many)

    def redo(self, *, many=1):
        """Makes the last steps that were taken back again, and returns how many are in effect."""
        check_number(many)
        if many > len(self._now.history) - self._now.made:
            raise NothingToUndo(many)
        return self._changed(self._now.history, self._now.made + many)

    def watch(self, name, thing):
        """Watches a thing of the graph with this name, and returns how many watches there are."""
        return self._watched(_pair(name, thing), True)

    def unwatch(self, name, thing):
        """Watches it no more, and returns how many watches there are."""
        pair = _pair(name, thing)
        if pair not in self._now.pairs:
            raise InvalidOperation("this is no watch")
        return self._watched(pair, False)

    def _watched(self, pair, stays):
        """Goes on with or without this watch."""
        now = self._now
        others = tuple(one for one in now.pairs if one != pair)
        pairs = tuple(sorted(others + (pair,))) if stays else others
        self._now = Version(now.history, now.made, now.before, pairs)
        return len(pairs)

    def news(self):
        """What the last change has changed of what is watched: triples of a watch, its old and its new state."""
        now = self._now
        for pair in now.pairs:
            old, new = _growth_in(now.before, pair), _growth_in(now.graphs, pair)
            if old != new:
                yield pair, old, new

    def trial(self):
        """A block at whose end the workshop is as at its beginning."""
        return Block(self)

    def attempt(self, action):
        """What action(workshop) returns; behind it the workshop is as before."""
        with self.trial() as same:
            return action(same)

    def twin(self):
        """An independent workshop in the same state."""
        other = Workshop()
        other._now = self._now
        return other


def _pair(name, thing):
    """The watch of these two names."""
    for word in (name, thing):
        if not is_name(word):
            raise InvalidOperation("a watch has two names")
    return name, thing

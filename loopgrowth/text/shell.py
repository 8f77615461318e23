"""A shell: lines that are done on a workshop, and their answers."""

from loopgrowth.bounds.bounds import bound
from loopgrowth.bounds.force import greatest
from loopgrowth.bounds.growing import growing
from loopgrowth.errors import InvalidCommand, InvalidOperation, UnknownName
from loopgrowth.graphs.graphs import Graph
from loopgrowth.levels.growths import steps_growth
from loopgrowth.live.workshop import Workshop
from loopgrowth.text.formats import growth_text, graph_text, natural_of, recipe_text, table_text, transition_of
from loopgrowth.values import decimal, is_name

_MAX_SIZE = 1000
_MAX_GOAL = 10 ** 40
_OK = "ok"
_NONE = "none"
_NAME = "name"
_SIZE = "size"
_GOAL = "goal"
_TRANSITION = "transition"


class Draft:
    """A graph that is not laid yet."""

    __slots__ = ("word", "counters_told", "states_told", "rows_told")

    def __init__(self, word):
        self.word = word
        self.counters_told = []
        self.states_told = []
        self.rows_told = []


def _begin(shell, name):
    shell._draft = Draft(name)
    return _OK


def _add_counter(shell, counter):
    shell._draft.counters_told.append(counter)
    return _OK


def _add_state(shell, state):
    shell._draft.states_told.append(state)
    return _OK


def _add_line(shell, transition):
    shell._draft.rows_told.append(transition)
    return _OK


def _finish(shell):
    draft = shell._draft
    graph = Graph.of(tuple(draft.counters_told), tuple(draft.rows_told), tuple(draft.states_told))
    shell._workshop.make(("put", draft.word, graph))
    shell._draft = None
    shell._opened = draft.word
    return _OK


def _forget(shell):
    shell._draft = None
    return _OK


def _go_to(shell, name):
    if name not in shell._workshop:
        raise UnknownName(name)
    shell._opened = name
    return _OK


def _drop(shell, name):
    shell._workshop.make(("drop", name))
    return _news(shell)


def _add(shell, transition):
    shell._workshop.make(("add", shell.present, transition))
    return _news(shell)


def _cut(shell, name):
    shell._workshop.make(("cut", shell.present, name))
    return _news(shell)


def _undo(shell):
    shell._workshop.undo()
    return _news(shell)


def _redo(shell):
    shell._workshop.redo()
    return _news(shell)


def _news(shell):
    """What the last change has changed, or that it was made."""
    told = [f"{name} {thing}: {_growth_or_dash(old)} to {_growth_or_dash(new)}"
            for (name, thing), old, new in shell._workshop.news()]
    return ", ".join(told) or _OK


def _growth_or_dash(growth):
    return "-" if growth is None else growth_text(growth)


def _watch(shell, thing):
    shell._workshop.watch(shell.present, thing)
    return _OK


def _unwatch(shell, thing):
    shell._workshop.unwatch(shell.present, thing)
    return _OK


def _graph(shell):
    """The present graph."""
    return shell._workshop[shell.present]


def _show(shell):
    return graph_text(_graph(shell))


def _table(shell):
    return table_text(_graph(shell))


def _growth(shell, thing):
    return growth_text(shell._workshop.growth(shell.present, thing))


def _steps(shell):
    return growth_text(steps_growth(_graph(shell)))


def _bound(shell, thing):
    told = bound(_graph(shell), thing)
    return _NONE if told is None else str(told)


def _reach(shell, goal, thing):
    size, recipe = growing(_graph(shell), thing, goal)
    return f"{decimal(size)} {recipe_text(recipe)}"


def _force(shell, size, thing):
    most = greatest(_graph(shell), thing, size)
    return _NONE if most is None else str(most)


def _names(shell):
    return " ".join(shell._workshop.names) or _NONE


_COMMANDS = {
    "new": (_begin, (_NAME,)), "counter": (_add_counter, (_NAME,)), "state": (_add_state, (_NAME,)),
    "line": (_add_line, (_TRANSITION,)), "done": (_finish, ()), "forget": (_forget, ()), "open": (_go_to, (_NAME,)),
    "drop": (_drop, (_NAME,)), "add": (_add, (_TRANSITION,)), "cut": (_cut, (_NAME,)), "undo": (_undo, ()),
    "redo": (_redo, ()), "watch": (_watch, (_NAME,)), "unwatch": (_unwatch, (_NAME,)), "show": (_show, ()),
    "table": (_table, ()), "growth": (_growth, (_NAME,)), "steps": (_steps, ()), "bound": (_bound, (_NAME,)),
    "reach": (_reach, (_GOAL, _NAME)), "force": (_force, (_SIZE, _NAME)), "names": (_names, ()),
}
_OF_DRAFTS = ("counter", "state", "line", "done", "forget")
_ALWAYS = ("open", "drop", "undo", "redo", "names")


def _command(line):
    """The word of a command, and the values behind it."""
    if not isinstance(line, str):
        raise InvalidCommand("a command is a line")
    word, _, rest = line.partition(" ")
    if word not in _COMMANDS:
        raise InvalidCommand("there is no such command")
    kinds = _COMMANDS[word][1]
    told = [rest] if kinds == (_TRANSITION,) else line.split(" ")[1:]
    values = [_value(kind, one) for kind, one in zip(kinds, told)]
    if len(told) != len(kinds) or None in values:
        raise InvalidCommand("the command has other words")
    return word, values


def _value(kind, word):
    """What a word of a command stands for, or None."""
    if kind == _TRANSITION:
        return transition_of(word)
    if kind == _NAME:
        return word if is_name(word) else None
    number = natural_of(word)
    most = _MAX_SIZE if kind == _SIZE else _MAX_GOAL
    return number if number is not None and number <= most else None


def _check_moment(shell, word):
    """Raises an error if the shell has no draft, or no present graph, where the command needs one."""
    if word == "new" and shell._draft is not None:
        raise InvalidOperation("there is a draft already")
    if word in _OF_DRAFTS and shell._draft is None:
        raise InvalidOperation("there is no draft")
    if word != "new" and word not in _OF_DRAFTS and word not in _ALWAYS and shell.present is None:
        raise InvalidOperation("there is no present graph")


class Shell:
    """A shell on a workshop."""

    def __init__(self, workshop=None):
        if workshop is not None and not isinstance(workshop, Workshop):
            raise InvalidOperation("this is no workshop")
        self._workshop = Workshop() if workshop is None else workshop
        self._draft = None
        self._opened = None
        self._log = []

    @property
    def present(self):
        """The name of the present graph, or None."""
        return self._opened if self._opened in self._workshop else None

    @property
    def log(self):
        """The lines that were done without an error."""
        return tuple(self._log)

    def __len__(self):
        return len(self._log)

    def do(self, line):
        """Does a command, and returns its answer."""
        word, values = _command(line)
        _check_moment(self, word)
        action = _COMMANDS[word][0]
        answer = action(self, *values)
        self._log.append(line)
        return answer

    def do_all(self, lines):
        """Does the commands of a tuple, each when its answer is asked for."""
        if not isinstance(lines, tuple):
            raise InvalidCommand("the lines are no tuple")
        for line in lines:
            yield self.do(line)

    def workshop(self):
        """A twin of the workshop."""
        return self._workshop.twin()

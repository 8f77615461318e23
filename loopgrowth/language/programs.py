"""Programs of loops: their graphs, their texts, and how often their steps are made."""

from loopgrowth.errors import InvalidGraph, InvalidOperation, ParseError
from loopgrowth.graphs.graphs import Graph, is_transition
from loopgrowth.levels.growths import growths
from loopgrowth.text.formats import growth_text

_STEP = "step"
_REPEAT = "repeat"
_CHOOSE = "choose"
_OR = "or"
_END = "end"
_MAX_DEEP = 4
_DIGITS = ("1", "2", "3", "4", "5", "6", "7", "8", "9")
_STATES = "abcdefgh"
_LETTERS = "abcdefghijklmnopqrstuvwxyz"


def is_program(value):
    """Whether the value is a program."""
    if not _is_body(value, _MAX_DEEP):
        return False
    steps = _steps(value)
    names = [name for name, _ in steps] + _counters(steps)
    return len(set(names)) == len(names)


def _is_body(value, deep):
    """Whether the value is a body with statements that are at most so deep."""
    if not isinstance(value, tuple) or not value or not all([_is_statement(one, deep) for one in value]):
        return False
    repeats = [one[0] == _REPEAT for one in value]
    return not repeats[0] and not repeats[-1] and not any([one and two for one, two in zip(repeats, repeats[1:])])


def _is_statement(value, deep):
    if not isinstance(value, tuple) or not 2 <= len(value) <= 5 or deep < 1:
        return False
    if value[0] == _STEP:
        # A step has a name and a change as a transition has them, between any two states.
        return len(value) == 3 and is_transition((value[1], "a", "a", value[2]))
    if value[0] == _REPEAT and len(value) != 2 or value[0] == _CHOOSE and len(value) < 3:
        return False
    return value[0] in (_REPEAT, _CHOOSE) and all([_is_body(body, deep - 1) for body in value[1:]])


def _steps(body):
    """The names and the changes of all steps, in their order."""
    steps = []
    for statement in body:
        if statement[0] == _STEP:
            steps.append(statement[1:])
        else:
            for inner in statement[1:]:
                steps.extend(_steps(inner))
    return steps


def _counters(steps):
    """The counters that these steps change."""
    return sorted({counter for _, change in steps for counter, _ in change})


def _check_program(value):
    if not is_program(value):
        raise InvalidOperation("this is no program")


class Layout:
    """The transitions of a program, laid from state to state, and how many states have been met."""

    def __init__(self):
        self.laid = []
        self.many = 0

    def new_state(self):
        """A state that has not been met."""
        if self.many == len(_STATES):
            raise InvalidGraph("there are too many states")
        self.many = self.many + 1
        return _STATES[self.many - 1]

    def add_body(self, body, begin, end):
        """Lays a body from a state to a state."""
        here = begin
        for at, statement in enumerate(body):
            if statement[0] == _REPEAT:
                self.add_body(statement[1], here, here)
            else:
                there = end if at == len(body) - 1 else self.new_state()
                self._add_statement(statement, here, there)
                here = there

    def _add_statement(self, statement, begin, end):
        if statement[0] == _STEP:
            self.laid.append((statement[1], begin, end, statement[2]))
        else:
            for body in statement[1:]:
                self.add_body(body, begin, end)


def compiled(program):
    """The graph of a program."""
    _check_program(program)
    layout = Layout()
    first = layout.new_state()
    layout.add_body(program, first, first)
    steps = _steps(program)
    return Graph.of(tuple(_counters(steps)) or _free_letter(steps), tuple(layout.laid))


def _free_letter(steps):
    """The first letter that is no step, as the only counter; none if all letters are steps."""
    names = [name for name, _ in steps]
    return tuple([letter for letter in _LETTERS if letter not in names][:1])


def program_text(program):
    """The text of a program."""
    _check_program(program)
    return "\n".join(_lines(program, "", {}))


def _lines(body, indent, remarks):
    """The lines of a body; behind some steps stand remarks."""
    lines = []
    for statement in body:
        if statement[0] == _STEP:
            lines.append(f"{indent}{statement[1]}: {_change_text(statement[2])}{remarks.get(statement[1], '')}")
        else:
            for at, inner in enumerate(statement[1:]):
                lines.append(indent + (_OR if at > 0 else statement[0]))
                lines.extend(_lines(inner, indent + "  ", remarks))
            lines.append(indent + _END)
    return lines


def _change_text(change):
    told = [f"{counter} {'+' if amount > 0 else '-'} {abs(amount)}" for counter, amount in change]
    return ", ".join(told) or "-"


def read_program(text):
    """The program with this text."""
    if not isinstance(text, str):
        raise ParseError("this is no text")
    program = _program_of([line.strip(" ") for line in text.split("\n")])
    if not is_program(program) or program_text(program) != text:
        raise ParseError("this is not the text of a program")
    return program


def _program_of(lines):
    """The statements of these lines, or None; where they do not make a program, what comes out is none."""
    words, bodies = [], [[[]]]
    for line in lines:
        if line in (_REPEAT, _CHOOSE):
            words.append(line)
            bodies.append([[]])
            if len(words) > _MAX_DEEP:
                return None
        elif line in (_OR, _END) and not words:
            return None
        elif line == _OR:
            bodies[-1].append([])
        elif line == _END:
            inner = bodies.pop()
            statement = (words.pop(),) + tuple(tuple(body) for body in inner)
            bodies[-1][-1].append(statement)
        else:
            bodies[-1][-1].append(_step_of(line))
    return None if words else tuple(bodies[0][0])


def _step_of(line):
    """The step of a line, or None."""
    name, _, told = line.partition(": ")
    if told == "-":
        return _STEP, name, ()
    parts = [part.split(" ") for part in told.split(", ")]
    if not all([len(part) == 3 and part[1] in ("+", "-") and part[2] in _DIGITS for part in parts]):
        return None
    return _STEP, name, tuple((counter, int(sign + digit)) for counter, sign, digit in parts)


def listing(program):
    """The text of a program, with the growth of each step behind its line."""
    graph = compiled(program)
    told = growths(graph)
    # The rank of what is free is left out.
    remarks = {name: " # " + growth_text(told[name]).split(" ")[0] for name in graph.names}
    return "\n".join(_lines(program, "", remarks))

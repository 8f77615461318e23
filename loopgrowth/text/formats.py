"""Texts of graphs, growths and recipes; each value has exactly one text."""

from loopgrowth.errors import InvalidGraph, InvalidOperation, InvalidRecipe, ParseError, TooMany
from loopgrowth.graphs.checks import check_graph
from loopgrowth.graphs.graphs import Graph, is_transition
from loopgrowth.levels.growths import growths, is_growth
from loopgrowth.values import decimal
from loopgrowth.walks.recipes import Recipe

_DIGITS = "0123456789"
_MAX_DIGITS = 1000
# All numbers with fewer binary digits have at most 1000 digits.
_MANY_BINARY_DIGITS = 3322
_MAX_DEPTH = 60


def natural_of(text):
    """The integer of at least 0 with this text, or None; one with more than 1000 digits has no text."""
    if not 1 <= len(text) <= _MAX_DIGITS or not all([letter in _DIGITS for letter in text]):
        return None
    return None if text[0] == "0" and len(text) > 1 else int(text)


def transition_text(transition):
    """The line of a transition in the text of a graph."""
    name, source, target, change = transition
    return " ".join([name, source, target] + [f"{counter}{amount:+d}" for counter, amount in change])


def transition_of(line):
    """The transition with this line, or None."""
    words = line.split(" ")
    if not all([_is_change_word(word) for word in words[3:]]):
        return None
    transition = tuple(words[:3]) + (tuple((word[:-2], int(word[-2:])) for word in words[3:]),)
    return transition if is_transition(transition) else None


def _is_change_word(word):
    return len(word) > 2 and word[-2] in "+-" and word[-1] in _DIGITS


def graph_text(graph):
    """The text of a graph."""
    check_graph(graph)
    heads = [" ".join(["counters", *graph.counters]), " ".join(["states", *graph.states])]
    return "\n".join(heads + [transition_text(row) for row in graph])


def growth_text(growth):
    """The text of a growth."""
    if not is_growth(growth):
        raise InvalidOperation("this is no growth")
    if len(growth) == 1:
        return "beyond"
    if growth[0] == "free":
        return f"free {decimal(growth[1])}"
    return "1" if growth[1] == 0 else "n" if growth[1] == 1 else f"n^{decimal(growth[1])}"


def table_text(graph):
    """The growths of all things of a graph, line by line."""
    told = growths(graph)
    return "\n".join([f"{thing}: {growth_text(told[thing])}" for thing in told])


def recipe_text(recipe):
    """The text of a recipe."""
    if not isinstance(recipe, Recipe):
        raise InvalidRecipe("this is no recipe")
    _check_numbers(recipe.row)
    return _row_text(["from", recipe.start], recipe.row)


def _check_numbers(items):
    for item in items:
        if not isinstance(item, str):
            if item[0].bit_length() >= _MANY_BINARY_DIGITS and len(decimal(item[0])) > _MAX_DIGITS:
                raise TooMany(_MAX_DIGITS)
            _check_numbers(item[1])


def _row_text(words, items):
    """The text of these words, and of items behind them."""
    return " ".join(words + [item if isinstance(item, str) else f"{decimal(item[0])}({_row_text([], item[1])})"
                             for item in items])


def _check_text(text):
    if not isinstance(text, str):
        raise ParseError("this is no text")


def read_graph(text):
    """The graph with this text."""
    _check_text(text)
    heads = [line.split(" ") for line in text.split("\n")[:2]]
    rows = tuple(transition_of(line) for line in text.split("\n")[2:])
    if len(heads) < 2:
        raise ParseError("this text has too few lines")
    try:
        graph = Graph.of(tuple(heads[0][1:]), rows, tuple(heads[1][1:]))
    except InvalidGraph:
        raise ParseError("there is no such graph") from None
    if graph_text(graph) != text:
        raise ParseError("the graph has another text")
    return graph


def read_growth(text):
    """The growth with this text."""
    _check_text(text)
    if text in ("1", "n", "beyond"):
        return ("beyond",) if text == "beyond" else ("power", 1 if text == "n" else 0)
    if text.startswith("n^"):
        exponent = natural_of(text[2:])
        if exponent is not None and exponent > 1:
            return "power", exponent
    if text.startswith("free "):
        rank = natural_of(text[5:])
        if rank is not None:
            return "free", rank
    raise ParseError("this is not the text of a growth")


def read_recipe(graph, text):
    """The recipe of this graph with this text."""
    check_graph(graph)
    _check_text(text)
    words = text.replace("(", "( ").replace(")", " )").split()
    items = _items_of(words[2:])
    if items is None or len(words) < 2 or words[1] not in graph.states:
        raise ParseError("this is not the text of a recipe")
    try:
        recipe = Recipe.of(graph, items, words[1])
    except InvalidRecipe:
        raise ParseError("there is no such recipe") from None
    if recipe_text(recipe) != text:
        raise ParseError("the recipe has another text")
    return recipe


def _items_of(words):
    """The items of names, and of numbers with a parenthesis behind them, or None."""
    rows, numbers = [[]], []
    for word in words:
        if word == ")" and numbers:
            items = tuple(rows.pop())
            rows[-1].append((numbers.pop(), items))
        elif word.endswith("("):
            many = natural_of(word[:-1])
            if many is None or len(numbers) == _MAX_DEPTH:
                return None
            rows.append([])
            numbers.append(many)
        else:
            rows[-1].append(word)
    return None if numbers else tuple(rows[0])

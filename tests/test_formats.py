"""Point 19.1, stage "texts"."""

import re
import unittest

from loopgrowth.errors import InvalidGraph, InvalidOperation, InvalidRecipe, ParseError, TooMany
from loopgrowth.graphs.graphs import Graph
from loopgrowth.levels.growths import growths, is_growth
from loopgrowth.text.formats import (graph_text, growth_text, read_graph, read_growth, read_recipe, recipe_text,
                                     table_text)
from loopgrowth.walks.recipes import Recipe, is_items
from samples import (CUBE, DOUBLE, EMPTY, PUMP, SHUTTLE, SIXTH, graph_of, loop_graph, moving_graph, odd_values,
                     random_graph)

GREAT = 10 ** 1000 - 1
SMALL = graph_of("x y", "a p q: x-1 y+2", "b q p: x+9")
RECIPES = [
    (SHUTTLE, (), "p"), (SHUTTLE, (), "q"), (SHUTTLE, ("a",), "p"),
    (SHUTTLE, ((2, ("go", (10, ("b",)), "back")),), "p"),
    (SHUTTLE, ((3, ("a",)), "go"), "p"), (SHUTTLE, ((0, ()),), "q"), (SHUTTLE, ((0, ()), (0, ())), "q"),
    (SHUTTLE, ((5, ((4, ((0, ()), (3, ()))),)), "a"), "p"), (SHUTTLE, ((GREAT, ("a",)),), "p"),
    (PUMP, ((1, ("a", (1, ("a", "a")))), "go", (0, ("b",)), "back", (10 ** 40, ("a",))), "s"), (EMPTY, ((7, ()),), "p"),
    (EMPTY, (), "p"),
]


def nested_items(deep):
    items = ("a",)
    for _ in range(deep):
        items = ((2, items),)
    return items


def words_text(items):
    """The text of items, laid by the test."""
    told = ""
    for item in items:
        told += (" " if told else "") + (item if isinstance(item, str) else f"{item[0]}({words_text(item[1])})")
    return told


def changed_texts(text, signs):
    for at in range(len(text) + 1):
        for sign in signs:
            yield text[:at] + sign + text[at:]
            yield text[:at] + sign + text[at + 1:]
        yield text[:at] + text[at + 1:]
        yield text[:at] + text[at:at + 1] + text[at:]
        yield text[:at] + text[at:at + 2][::-1] + text[at + 2:]


NAME = "[a-z]{1,8}"
ROW = re.compile(rf"{NAME} {NAME} {NAME}( {NAME}[+-][1-9])*")


def graph_by(text):
    """The graph with this text, or None, by the test's own reading."""
    lines = text.split("\n")
    if len(lines) < 2 or not re.fullmatch(f"counters( {NAME})+", lines[0]) or \
            not re.fullmatch(f"states( {NAME})+", lines[1]) or not all(ROW.fullmatch(line) for line in lines[2:]):
        return None
    rows = []
    for line in lines[2:]:
        name, source, target, *told = line.split(" ")
        change = tuple((word[:-2], int(word[-2:])) for word in told)
        if [counter for counter, _ in change] != sorted({counter for counter, _ in change}):
            return None
        rows.append((name, source, target, change))
    counters, states = lines[0].split(" ")[1:], lines[1].split(" ")[1:]
    if counters != sorted(set(counters)) or states != sorted(set(states)) or rows != sorted(rows):
        return None
    try:
        graph = Graph(tuple(counters), *rows, states=tuple(states))
    except InvalidGraph:
        return None
    return graph if list(graph.states) == states else None


NUMBER = "(?:0|[1-9][0-9]{0,999})"
WORDS = re.compile(rf"{NUMBER}\(\)|{NUMBER}\(|{NAME}|\)| ")


def items_by(text, at):
    """The items from a place on, up to a parenthesis or the end, and the place behind them; or None."""
    items = []
    while at < len(text) and text[at] != ")":
        if items:
            if text[at] != " ":
                return None
            at += 1
        word = re.compile(rf"({NUMBER})\(|({NAME})").match(text, at)
        if not word:
            return None
        at = word.end()
        if word[2]:
            items.append(word[2])
        else:
            inner = items_by(text, at)
            if inner is None or text[inner[1]:inner[1] + 1] != ")":
                return None
            items.append((int(word[1]), inner[0]))
            at = inner[1] + 1
    return tuple(items), at


def recipe_by(graph, text):
    """The items and the start of a text, or None."""
    head = re.match(f"from ({NAME})(?= |$)", text)
    if not head or "\n" in text or head[1] not in graph.states:
        return None
    if head.end() == len(text):
        return (), head[1]
    told = items_by(text, head.end() + 1)
    if told is None or told[1] != len(text) or not told[0] or not is_items(graph, head[1], told[0]):
        return None
    return told[0], head[1]


def growth_by(text):
    if text in ("1", "n", "beyond"):
        return {"1": ("power", 0), "n": ("power", 1), "beyond": ("beyond",)}[text]
    told = re.fullmatch(f"n\\^({NUMBER})|free ({NUMBER})", text)
    if not told or "\n" in text or told[1] in ("0", "1"):
        return None
    return ("power", int(told[1])) if told[1] else ("free", int(told[2]))


def some_graphs():
    return [SHUTTLE, DOUBLE, PUMP, CUBE, SIXTH, EMPTY, SMALL, Graph(("x", "abcdefgh"), states=("zz",))] + \
        [loop_graph(seed) for seed in range(40)] + [random_graph(seed) for seed in range(40)] + \
        [moving_graph(seed) for seed in range(10)]


class TestFormats(unittest.TestCase):
    def test_examples(self):
        self.assertEqual([graph_text(PUMP).split("\n")[:3], growth_text(("free", 1)), read_growth("n^12"),
                          table_text(PUMP).split("\n")[-2:]],
                         [["counters u z", "states s t", "a s s u+1"], "free 1", ("power", 12), ["u: free 0", "z: n"]])
        self.assertEqual([recipe_text(Recipe(SHUTTLE, (2, ("go", (10, ("b",)), "back")))),
                          read_recipe(SHUTTLE, "from q back 3(a) 0()").length], ["from p 2(go 10(b) back)", 4])

    def test_texts_of_graphs(self):
        for graph in some_graphs():
            lines = ["counters " + " ".join(graph.counters), "states " + " ".join(graph.states)]
            for name, source, target, change in graph.transitions:
                words = [name, source, target] + [counter + ("+" if amount > 0 else "") + str(amount)
                                                  for counter, amount in change]
                lines.append(" ".join(words))
            text = graph_text(graph)
            self.assertEqual(text, "\n".join(lines))
            self.assertEqual(read_graph(text), graph)
            self.assertEqual(graph_by(text), graph)
        self.assertEqual(graph_text(SHUTTLE), "counters x y z\nstates p q\na p p x-1 y+1\nb q q x+1 y-1\nback q p z-1\n"
                                              "go p q")
        self.assertEqual(graph_text(EMPTY), "counters x\nstates p")

    def test_texts_of_graphs_with_something_otherwise(self):
        right = wrong = 0
        for graph in (SMALL, EMPTY, SHUTTLE):
            for text in changed_texts(graph_text(graph), " \n0123+-azXpq_("):
                told = graph_by(text)
                if told is None:
                    wrong += 1
                    with self.assertRaises(ParseError, msg=text):
                        read_graph(text)
                else:
                    right += 1
                    self.assertEqual((read_graph(text), graph_text(told)), (told, text))
        self.assertTrue(right > 200 and wrong > 3000)

    def test_texts_of_no_graph(self):
        text = graph_text(SMALL)
        for other in ["", "\n", text + "\n", "\n" + text, text + " ", " " + text, text + "\n\n", text.upper(),
                      "counters x y\nstates p q", "counters\nstates p", "counters x\nstates", "counters x",
                      "states p\ncounters x", "counters x x\nstates p", "counters y x\nstates p",
                      "counters x\nstates p p", "counters x\nstates p q\na p q\nb q p\na p q",
                      "counters x\nstates q p\na p q\nb q p", "counters x\nstates p q\nb q p\na p q",
                      "counters x\nstates p\na p q\nb q p", "counters x\nstates p q r\na p q\nb q p",
                      "counters x\nstates p\nx p p", "counters x\nstates p\na p p y-1",
                      "counters x\nstates p\na p p x-0",
                      "counters x\nstates p\na p p x-10", "counters x\nstates p\na p p x-01",
                      "counters x\nstates p\na p",
                      "counters x\nstates p\na p p x1", "counters x\nstates p\na p p x",
                      "counters x\nstates p\na p p -1",
                      "counters x\nstates p\na p p x-1 x-1", "counters x y\nstates p\na p p y-1 x-1",
                      "counters x\nstates p\na  p p", "counters x\nstates p\na p p ", "counters x\r\nstates p",
                      "counters x\tstates p", "counters abcdefghi\nstates p", "counters x\nstates p\nabcdefghi p p",
                      "counters u v w x y z\nstates p", "counter x\nstates p", "counters: x\nstates: p"]:
            self.assertIsNone(graph_by(other))
            with self.assertRaises(ParseError, msg=other):
                read_graph(other)
        for value in odd_values() + [[text], (text,), text.encode(), SMALL]:
            with self.assertRaises(ParseError):
                read_graph(value)

    def test_texts_of_growths(self):
        for told, text in ((("power", 0), "1"), (("power", 1), "n"), (("power", 2), "n^2"), (("power", 10), "n^10"),
                           (("power", GREAT), "n^" + "9" * 1000), (("beyond",), "beyond"), (("free", 0), "free 0"),
                           (("free", 1), "free 1"), (("free", GREAT), "free " + "9" * 1000)):
            self.assertEqual((growth_text(told), read_growth(text)), (text, told))
            self.assertEqual([type(one) for one in read_growth(text)], [type(one) for one in told])
        for text in ("n^2", "n^10", "n^205", "free 0", "free 12", "beyond", "n", "1"):
            for other in changed_texts(text, " \n0123456789n^+-fb_"):
                told = growth_by(other)
                if told is None:
                    with self.assertRaises(ParseError, msg=other):
                        read_growth(other)
                else:
                    self.assertEqual((read_growth(other), growth_text(told)), (told, other))

    def test_texts_of_no_growth(self):
        for text in ["", "0", "2", "n^0", "n^1", "n^01", "n^", "n^ 2", "n ^2", "n^-2", "n^+2", "n^2.0", "n^2 ", "N",
                     "N^2",
                     "free", "free ", "free 00", "free 01", "free -1", "free  1", "free0", "free n", "Beyond",
                     "beyond ",
                     "n\n", "n^1_0", "n^" + "1" * 1001, "free " + "1" * 1001, "free " + "0" * 1000, "1n", "n^\u0665",
                     "power 2", "n^2n"]:
            with self.assertRaises(ParseError, msg=text):
                read_growth(text)
        for value in odd_values() + [("power", 2), ["n"], b"n"]:
            with self.assertRaises(ParseError):
                read_growth(value)
        for value in odd_values() + ["n", ("power", -1), ("power", True), ("beyond", 1), ("free",), ["beyond"]]:
            if not is_growth(value):
                with self.assertRaises(InvalidOperation):
                    growth_text(value)

    def test_tables(self):
        for graph in some_graphs():
            told = growths(graph)
            lines = [f"{thing}: {growth_text(told[thing])}" for thing in sorted(graph.counters + graph.names)]
            self.assertEqual(table_text(graph), "\n".join(lines))
        self.assertEqual(table_text(DOUBLE), "a: beyond\nb: beyond\nback: n\ngo: n\nx: beyond\ny: beyond\nz: n")
        self.assertEqual(table_text(SHUTTLE), "a: n^2\nb: n^2\nback: n\ngo: n\nx: n\ny: n\nz: n")
        self.assertEqual(table_text(PUMP), "a: free 0\nb: free 1\nback: n\ngo: n\nu: free 0\nz: n")
        self.assertEqual(table_text(EMPTY), "x: n")

    def test_texts_of_recipes(self):
        for graph, items, start in RECIPES:
            recipe = Recipe.of(graph, items, start)
            text = ("from " + start + " " + words_text(items)).rstrip()
            self.assertEqual(recipe_text(recipe), text)
            other = read_recipe(graph, text)
            self.assertEqual(other, recipe)
            self.assertEqual((other.start, other.row, other.needs), (start, items, recipe.needs))
            self.assertEqual(recipe_by(graph, text), (items, start))

    def test_texts_of_recipes_with_something_otherwise(self):
        right = wrong = 0
        for graph, items, start in RECIPES:
            if items and items[0] != (GREAT, ("a",)):
                for text in changed_texts(recipe_text(Recipe.of(graph, items, start)), " \n013(),abg-+"):
                    told = recipe_by(graph, text)
                    if told is None:
                        wrong += 1
                        with self.assertRaises(ParseError, msg=text):
                            read_recipe(graph, text)
                    else:
                        right += 1
                        recipe = read_recipe(graph, text)
                        self.assertEqual((recipe.row, recipe.start, recipe_text(recipe)), (*told, text))
        self.assertTrue(right > 100 and wrong > 3000, (right, wrong))

    def test_texts_of_no_recipe(self):
        for text in ["", "from", "from ", "from r", "from p q", "p a", "from p a ", " from p a", "from p  a",
                     "from p\na",
                     "from p a\n", "from p b", "from p go go", "from p 2(go)", "from p 2(a", "from p 2(a))",
                     "from p a)",
                     "from p 2 (a)", "from p 2( a)", "from p 2(a )", "from p 2( )", "from p 02(a)", "from p (a)",
                     "from p -1(a)", "from p +2(a)", "from p 2.0(a)", "from p 2(a)a", "from p 2(a)3(a)", "from p a(2)",
                     "from p 2[a]", "from p " + "1" * 1001 + "(a)", "from p 0" + "1" * 20 + "(a)", "From p a",
                     "from P a",
                     "from p 2()(a)", "from p ()", "from p )", "from p 1_0(a)", "(" * 3000, "from p " + "1(" * 3000,
                     "from p nosuch", "from p 2(a,a)", "from p " + "a" * 9]:
            self.assertIsNone(recipe_by(SHUTTLE, text) if len(text) < 3000 else None, text)
            with self.assertRaises(ParseError, msg=text):
                read_recipe(SHUTTLE, text)
        for value in odd_values() + [Recipe(SHUTTLE, "a"), ["from p a"], b"from p a"]:
            with self.assertRaises(ParseError):
                read_recipe(SHUTTLE, value)
        with self.assertRaises(ParseError):
            read_recipe(PUMP, "from p a")
        with self.assertRaises(ParseError):
            read_recipe(SHUTTLE, "from s a")

    def test_how_deep_and_how_long_recipes_are(self):
        for deep in (1, 2, 59, 60):
            items = nested_items(deep)
            text = "from p " + "2(" * deep + "a" + ")" * deep
            self.assertEqual(recipe_text(Recipe.of(SHUTTLE, items)), text)
            self.assertEqual(read_recipe(SHUTTLE, text).row, items)
        for deep in (61, 62, 100, 5000):
            with self.assertRaises(ParseError):
                read_recipe(SHUTTLE, "from p " + "2(" * deep + "a" + ")" * deep)
        text = "from p" + " a" * 100000
        self.assertEqual(read_recipe(SHUTTLE, text).length, 100000)
        self.assertEqual(recipe_text(read_recipe(SHUTTLE, text)), text)
        for other in (text + " a", text + " 0()", "from p 1(" + text[7:] + ")"):
            with self.assertRaises(ParseError):
                read_recipe(SHUTTLE, other)

    def test_recipes_with_long_numbers(self):
        for number, right in ((GREAT, True), (GREAT + 1, False), (10 ** 999, True), (GREAT ** 2, False),
                              (10 ** 20000, False)):
            for items in (((number, ("a",)),), ((3, ((number, ()), "a")),), ("a", (1, ("a", (number, ("a",)))))):
                recipe = Recipe.of(SHUTTLE, items)
                if right:
                    self.assertEqual(recipe_text(recipe), "from p " + words_text(items))
                    self.assertEqual(read_recipe(SHUTTLE, recipe_text(recipe)), recipe)
                else:
                    with self.assertRaises(TooMany) as caught:
                        recipe_text(recipe)
                    self.assertEqual(caught.exception.limit, 1000)
        with self.assertRaises(ParseError):
            read_recipe(SHUTTLE, "from p 1" + "0" * 1000 + "(a)")

    def test_the_first_error_that_applies(self):
        for value in odd_values():
            if not isinstance(value, Graph):
                for call in (graph_text, table_text, lambda one: read_recipe(one, "from p a"),
                             lambda one: read_recipe(one, None)):
                    with self.assertRaises(InvalidGraph):
                        call(value)
        for value in odd_values() + [("a",), "from p a", Recipe]:
            with self.assertRaises(InvalidRecipe):
                recipe_text(value)


if __name__ == "__main__":
    unittest.main()

"""Point 5.1 and stage "recipes"."""

import random
import unittest
from itertools import islice

from loopgrowth.errors import InvalidGraph, InvalidNumber, InvalidOperation, InvalidRecipe, NotEnough, UnknownName
from loopgrowth.graphs.graphs import Graph
from loopgrowth.graphs.parts import components, cycles
from loopgrowth.walks.recipes import MAX_ITEMS, Recipe, circuit, is_items
from samples import DOUBLE, EMPTY, PUMP, SHUTTLE, odd_names, odd_numbers, odd_values, random_graph
from sums import long_sums, sums_of, written_out

VISIT = (10, ("a",)), "go", (10, ("b",)), "back"


def odd_items():
    """Values that are no items, in any graph that has the transition a at its state."""
    return [value for value in odd_values() if value not in [(), ("a",)]] + [
        ["a"], "a", ("a", None), ("a", ["a"]), ((-1, ("a",)),), ((True, ("a",)),), ((1, "a"),), ((1, ["a"]),), ((1,),),
        ((1, (), ()),), (("a", "a"),), ((None, ("a",)),), ([1, ("a",)],), ((1, ("a",)), 1), ((("a",), 1),), ((),),
        ((1, (1, ("a",))),), {"a": 1}, ("nosuch",), ((0, ("nosuch",)),), ("",), ((0, (None,)),), (SHUTTLE,)]


def deep(many, inner=("a",), rounds=1):
    """Items with repeats that are nested so many deep."""
    items = inner
    for _ in range(many):
        items = ((rounds, items),)
    return items


def name_at(graph, items, at):
    for item in items:
        length = 1 if isinstance(item, str) else item[0] * long_sums(graph, item[1])[0]
        if at < length:
            return item if isinstance(item, str) else name_at(graph, item[1], at % long_sums(graph, item[1])[0])
        at -= length
    raise AssertionError


def random_items(source, graph, state, depth, greatest):
    """Items that lead from the state back to it."""
    items, here = [], state
    for _ in range(source.randint(0, 4)):
        if depth and source.random() < 0.5:
            items.append((source.randint(0, greatest), random_items(source, graph, here, depth - 1, greatest)))
        else:
            name = source.choice(graph.leaving(here))
            items.append(name)
            here = graph[name][2]
    while here != state:
        names = [name for name in graph.leaving(here) if graph[name][2] != here]
        name = source.choice(names)
        items.append(name)
        here = graph[name][2]
    return tuple(items)


class TestRecipes(unittest.TestCase):
    def test_examples(self):
        visit = Recipe(SHUTTLE, *VISIT)
        self.assertEqual([visit.length, visit.effect, visit.needs, visit.highest("y"), visit[21], str(visit)],
                         [22, {"x": 0, "y": 0, "z": -1}, {"x": 10, "y": 0, "z": 1}, 10, "back",
                          "recipe of 22 transitions from p to p"])
        self.assertEqual([(visit * 5).needs, (visit * 10 ** 30).taken("a"), circuit(DOUBLE, {"a": 3}, "p").taken("a"),
                          (visit + Recipe(SHUTTLE, "go")).end],
                         [{"x": 10, "y": 0, "z": 5}, 10000000000000000000000000000000, 3, "q"])

    def check(self, graph, items, start):
        recipe = Recipe.of(graph, items, start)
        row = written_out(items)
        state, length, sums, needs, high = sums_of(graph, row, start)
        self.assertEqual((recipe.graph, recipe.row, recipe.start, recipe.end), (graph, items, start, state))
        self.assertEqual((recipe.length, recipe.effect, recipe.needs), (length, sums, needs))
        self.assertEqual((list(recipe.effect), list(recipe.needs)), (list(graph.counters), list(graph.counters)))
        for counter in graph.counters:
            self.assertEqual(recipe.highest(counter), high[counter])
        for name in graph.names:
            self.assertEqual(recipe.taken(name), row.count(name))
        self.assertEqual(list(recipe.walk()), row)
        self.assertEqual([recipe[at] for at in range(length)], row)
        self.assertIs(bool(recipe), bool(row))
        self.assertEqual(str(recipe), f"recipe of {length} transitions from {start} to {state}")
        for at in (length, -1, length + 10 ** 30, True, None, "0", (0,)):
            with self.assertRaises(InvalidNumber) as caught:
                recipe[at]
            self.assertIs(caught.exception.value, at)
        return recipe

    def test_against_a_walk(self):
        source = random.Random(21)
        for seed in range(150):
            graph = random_graph(seed)
            start = source.choice(graph.states)
            items = random_items(source, graph, start, 3, 3)
            if len(written_out(items)) < 3000:
                recipe = self.check(graph, items, start)
                self.assertTrue(is_items(graph, start, items))
                if items and len(written_out(items)) < 300:
                    self.check(graph, ((4, items), *items, (0, items)), start)
                    self.assertEqual((recipe * 4).needs, sums_of(graph, written_out(items) * 4, start)[3])
            half = items[:len(items) // 2]
            if len(written_out(half)) < 3000:
                self.check(graph, half, start)

    def test_long_rows_of_items(self):
        source = random.Random(23)
        graph = random_graph(4)
        for many in (15, 16, 17, 255, 256, 257, 1000):
            items = []
            while len(items) < many:
                items.extend(random_items(source, graph, graph.states[0], 1, 2))
            self.check(graph, tuple(items), graph.states[0])

    def test_great_numbers(self):
        source = random.Random(22)
        for seed in range(40):
            graph = random_graph(seed)
            start = source.choice(graph.states)
            items = random_items(source, graph, start, 3, 10 ** source.choice((30, 60)))
            recipe = Recipe.of(graph, items, start)
            length, effect, low, high, counts = long_sums(graph, items)
            self.assertEqual(recipe.length, length)
            self.assertEqual(list(recipe.effect.values()), effect)
            self.assertEqual(list(recipe.needs.values()), [-one for one in low])
            self.assertEqual([recipe.highest(counter) for counter in graph.counters], high)
            self.assertEqual({name: recipe.taken(name) for name in graph.names}, counts)
            for _ in range(10):
                if length:
                    at = source.randrange(length)
                    self.assertEqual(recipe[at], name_at(graph, items, at))
            first = list(islice(recipe.walk(), 20))
            self.assertEqual(first, [name_at(graph, items, at) for at in range(len(first))])

    def test_empty_repeats(self):
        for items in [(), ((5, ()),), ((10 ** 999, ((10 ** 999, ()),)),), ((0, ("a",)),),
                      ((10 ** 30, ((0, ("a",)),)),)]:
            recipe = self.check(SHUTTLE, items, "p")
            self.assertEqual(Recipe.of(SHUTTLE, items), recipe)
            self.assertEqual(list((recipe + recipe).walk()), [])
        recipe = Recipe(SHUTTLE, (10 ** 30, ()), "a", (10 ** 30, ((7, ()),)), "go")
        self.assertEqual(list(recipe.walk()), ["a", "go"])

    def test_start(self):
        self.assertEqual(Recipe(SHUTTLE, "go").start, "p")
        self.assertEqual(Recipe(SHUTTLE, "back").start, "q")
        self.assertEqual(Recipe(SHUTTLE).start, "p")
        self.assertEqual(Recipe(SHUTTLE, (3, ())).start, "p")
        self.assertEqual(Recipe(SHUTTLE, (3, ()), (0, ((2, ()), (0, ("b",)))), "back").start, "q")
        self.assertEqual(Recipe(SHUTTLE, start="q").start, "q")
        self.assertEqual(Recipe.of(SHUTTLE, (), "q").end, "q")
        self.assertEqual(Recipe.of(SHUTTLE, (), start="q"), Recipe(SHUTTLE, start="q"))
        self.assertEqual(Recipe(EMPTY).start, "p")
        for value in odd_names("p", "q"):
            if value is not None:
                for call in (lambda one: Recipe(SHUTTLE, None, start=one), lambda one: Recipe.of(SHUTTLE, None, one)):
                    with self.assertRaises(UnknownName) as caught:
                        call(value)
                    self.assertIs(caught.exception.name, value)

    def test_what_cannot_be_walked(self):
        for items in [("go", "go"), ("a", "b"), ((1, ("go",)),), ((0, ("go",)),), ("go", (0, ("a",))),
                      ((2, ("go", "back", "b")),), ((0, ("a", "b")),), ((0, ("a", "go", (0, ("a",)), "back")),)]:
            with self.assertRaises(InvalidRecipe):
                Recipe(SHUTTLE, *items)
            self.assertIs(is_items(SHUTTLE, "p", items), False)
            self.assertIs(is_items(SHUTTLE, "q", items), False)
        with self.assertRaises(InvalidRecipe):
            Recipe(SHUTTLE, "go", start="q")

    def test_values_that_are_no_items(self):
        for value in odd_items():
            self.assertIs(is_items(SHUTTLE, "p", value), False, value)
            with self.assertRaises(InvalidRecipe):
                Recipe.of(SHUTTLE, value, "p")
            if isinstance(value, tuple):
                with self.assertRaises(InvalidRecipe):
                    Recipe(SHUTTLE, *value, start="p")
            with self.assertRaises(InvalidRecipe):
                Recipe(SHUTTLE, (2, value), None)
        for value in odd_values():
            if not isinstance(value, Graph):
                for call in (lambda one: Recipe(one, None, start="zz"), lambda one: Recipe.of(one, None, "zz"),
                             lambda one: is_items(one, "zz", ())):
                    with self.assertRaises(InvalidGraph):
                        call(value)
        for value in odd_names("p", "q"):
            with self.assertRaises(UnknownName):
                is_items(SHUTTLE, value, ())

    def test_bounds_of_items(self):
        self.assertEqual(MAX_ITEMS, 100000)
        full = ("a",) * 100000
        self.assertEqual(Recipe.of(SHUTTLE, full).length, 100000)
        self.assertEqual(Recipe(SHUTTLE, *full).taken("a"), 100000)
        self.assertIs(is_items(SHUTTLE, "p", full), True)
        counted = ((3, ("a",) * 49999),) * 2
        self.assertEqual(Recipe.of(SHUTTLE, counted).length, 299994)
        for value in (full + ("a",), counted + ((1, ()),), ((1, full),), ((2, ()),) * 100001):
            self.assertIs(is_items(SHUTTLE, "p", value), False)
            with self.assertRaises(InvalidRecipe):
                Recipe.of(SHUTTLE, value)
        recipe = Recipe.of(SHUTTLE, full)
        for call in (lambda: recipe + recipe, lambda: recipe + Recipe(SHUTTLE, "a"), lambda: recipe * 1):
            with self.assertRaises(InvalidRecipe):
                call()
        shared = ("a",)
        for _ in range(60):
            shared = ((1, shared), (1, shared))
        self.assertIs(is_items(SHUTTLE, "p", shared), False)

    def test_bounds_of_depth(self):
        recipe = Recipe.of(SHUTTLE, deep(60, rounds=10))
        self.assertEqual((recipe.length, recipe[10 ** 60 - 1]), (10 ** 60, "a"))
        self.assertIs(is_items(SHUTTLE, "p", deep(60)), True)
        for many in (61, 62, 80, 99, 100):
            for items in (deep(many), deep(many, ()), ("a",) + deep(many)):
                self.assertIs(is_items(SHUTTLE, "p", items), False)
                with self.assertRaises(InvalidRecipe):
                    Recipe.of(SHUTTLE, items)
        with self.assertRaises(InvalidRecipe):
            recipe * 2
        self.assertEqual((Recipe.of(SHUTTLE, deep(59)) * 2).length, 2)

    def test_more_digits_than_str_can_write(self):
        recipe = Recipe.of(SHUTTLE, deep(6, VISIT, 10 ** 999))
        self.assertEqual(recipe.length, 22 * 10 ** 5994)
        self.assertEqual(str(recipe), f"recipe of 22{'0' * 5994} transitions from p to p")
        self.assertEqual(recipe.needs["z"], 10 ** 5994)
        self.assertEqual(str(Recipe.of(SHUTTLE, ((10 ** 60 + 7, ("a",)),))).split()[2], str(10 ** 60 + 7))
        self.assertEqual(recipe[22 * 10 ** 5994 - 1], "back")
        self.assertEqual(recipe.after({"x": 10, "y": 0, "z": 10 ** 5994}), {"x": 10, "y": 0, "z": 0})

    def test_after(self):
        visit = Recipe(SHUTTLE, *VISIT)
        self.assertEqual(visit.after({"z": 1, "y": 5, "x": 10}), {"x": 10, "y": 5, "z": 0})
        self.assertEqual(list(visit.after({"z": 1, "y": 5, "x": 10})), ["x", "y", "z"])
        for loads, counter in [({"x": 9, "y": 0, "z": 0}, "x"), ({"x": 10, "y": 0, "z": 0}, "z"),
                               ({"x": 0, "y": 0, "z": 9}, "x")]:
            with self.assertRaises(NotEnough) as caught:
                visit.after(loads)
            self.assertEqual(caught.exception.counter, counter)
        bad = [{"x": 10, "y": 0}, {"x": 10, "y": 0, "z": 1, "w": 1}, {"x": 10, "y": 0, "w": 1}, {"x": 1, "y": 0, 3: 4},
               [("x", 10)], ("x", "y", "z")] + [{"x": 10, "y": 0, "z": value} for value in odd_numbers()]
        for value in bad + odd_values():
            with self.assertRaises(InvalidOperation):
                visit.after(value)

    def test_sums_of_recipes(self):
        one, two = Recipe(SHUTTLE, "a", "go"), Recipe(SHUTTLE, "b", (2, ("b",)))
        self.assertEqual((one + two).row, ("a", "go", "b", (2, ("b",))))
        self.assertEqual((one + two).start, "p")
        self.assertEqual(one + Recipe(SHUTTLE, start="q"), one)
        self.assertEqual(Recipe(SHUTTLE) + one, one)
        self.assertEqual(Recipe(SHUTTLE, start="q") + two, two)
        self.assertEqual((Recipe(SHUTTLE, (2, ()), start="q") + two).start, "q")
        same = Recipe(Graph(("z", "y", "x"), *reversed(SHUTTLE.transitions)), "b")
        self.assertEqual((one + same).row, ("a", "go", "b"))
        for other in [one, Recipe(SHUTTLE), Recipe(DOUBLE, "b"), Recipe(PUMP, "b"), Recipe(EMPTY)] + odd_values():
            with self.assertRaises(InvalidOperation):
                one + other
        with self.assertRaises(InvalidOperation):
            two + Recipe(SHUTTLE)

    def test_multiples_of_recipes(self):
        visit = Recipe(SHUTTLE, *VISIT)
        self.assertEqual((visit * 3).row, ((3, VISIT),))
        self.assertEqual((visit * 0).length, 0)
        self.assertEqual((visit * 0).start, "p")
        self.assertEqual((Recipe(SHUTTLE, start="q") * 3, Recipe(SHUTTLE, (3, ()), start="q")),
                         (Recipe(SHUTTLE, (3, ()), start="q"),) * 2)
        self.assertEqual(((visit * 10 ** 999) * 10 ** 999).taken("back"), 10 ** 1998)
        for value in odd_numbers():
            with self.assertRaises(InvalidOperation):
                visit * value
        for many in (0, 1, 2, True):
            with self.assertRaises(InvalidOperation):
                Recipe(SHUTTLE, "go") * many

    def test_equality(self):
        recipes = [Recipe(SHUTTLE, "a"), Recipe(SHUTTLE, "a", "a"), Recipe(SHUTTLE, (2, ("a",))), Recipe(DOUBLE, "a"),
                   Recipe(SHUTTLE), Recipe(SHUTTLE, start="q"), Recipe(SHUTTLE, (1, ("a",))), Recipe(SHUTTLE, (1, ()))]
        for one, recipe in enumerate(recipes):
            for two, other in enumerate(recipes):
                self.assertEqual(recipe == other, one == two)
                self.assertEqual(recipe != other, one != two)
            for value in odd_values():
                self.assertFalse(recipe == value)
        self.assertEqual(Recipe(SHUTTLE, "a", start="p"), recipes[0])
        self.assertEqual(Recipe.of(SHUTTLE, ("a",), None), recipes[0])

    def test_unknown_names(self):
        visit = Recipe(SHUTTLE, *VISIT)
        for value in odd_names(*SHUTTLE.names):
            with self.assertRaises(UnknownName) as caught:
                visit.taken(value)
            self.assertIs(caught.exception.name, value)
        for value in odd_names(*SHUTTLE.counters):
            with self.assertRaises(UnknownName) as caught:
                visit.highest(value)
            self.assertIs(caught.exception.name, value)
        for value in odd_values() + [22, -1, True]:
            if type(value) is not int or not 0 <= value < 22:
                with self.assertRaises(InvalidNumber) as caught:
                    visit[value]
                self.assertIs(caught.exception.value, value)

    def test_a_recipe_never_changes(self):
        visit = Recipe(SHUTTLE, *VISIT)
        visit.effect["x"] = 7
        visit.needs["x"] = 7
        self.assertEqual((visit.effect["x"], visit.needs["x"]), (0, 10))
        for name in ("graph", "row", "start", "end", "length", "effect", "needs"):
            with self.assertRaises(AttributeError):
                setattr(visit, name, None)

    def test_walk_goes_on_as_it_is_asked(self):
        told = (Recipe(SHUTTLE, *VISIT) * 10 ** 500).walk()
        self.assertEqual([next(told) for _ in range(23)], ["a"] * 10 + ["go"] + ["b"] * 10 + ["back", "a"])


class TestCircuits(unittest.TestCase):
    def test_circuits(self):
        source = random.Random(31)
        for seed in range(120):
            graph = random_graph(seed)
            every = list(cycles(graph))
            amounts = {}
            for cycle in source.sample(every, source.randint(1, min(4, len(every)))):
                many = source.choice((1, 2, 10 ** 30, 10 ** 998))
                for name in cycle:
                    amounts[name] = amounts.get(name, 0) + many
            parts = components(graph, tuple(amounts))
            for state in graph.states:
                if len(parts) > 1 or state not in parts[0]:
                    with self.assertRaises(InvalidOperation):
                        circuit(graph, amounts, state)
                    continue
                recipe = circuit(graph, amounts, state)
                self.assertEqual((recipe.start, recipe.end, recipe.graph), (state, state, graph))
                for name in graph.names:
                    self.assertEqual(recipe.taken(name), amounts.get(name, 0))
                self.assertTrue(is_items(graph, state, recipe.row))

    def test_without_transitions_any_state_will_do(self):
        for state in ("p", "q"):
            for amounts in ({}, {"a": 0, "go": 0}):
                recipe = circuit(SHUTTLE, amounts, state)
                self.assertEqual((recipe.start, recipe.end, recipe.length), (state, state, 0))
        self.assertEqual(circuit(EMPTY, {}, "p").length, 0)

    def test_amounts_that_do_not_hang_together(self):
        for amounts, state in [({"a": 1, "b": 1}, "p"), ({"a": 1}, "q"), ({"go": 1, "back": 2}, "p"), ({"go": 1}, "p"),
                               ({"b": 10 ** 30, "go": 0, "back": 0}, "p")]:
            with self.assertRaises(InvalidOperation):
                circuit(SHUTTLE, amounts, state)
        self.assertEqual(circuit(SHUTTLE, {"a": 1, "b": 2, "go": 1, "back": 1}, "q").taken("b"), 2)

    def test_errors(self):
        for value in odd_values():
            if not isinstance(value, Graph):
                with self.assertRaises(InvalidGraph):
                    circuit(value, None, None)
            if value not in ({}, {"a": 1}):
                with self.assertRaises(InvalidOperation):
                    circuit(SHUTTLE, value, "nowhere")
        for value in odd_numbers():
            with self.assertRaises(InvalidOperation):
                circuit(SHUTTLE, {"a": value}, "nowhere")
        for value in odd_names("p", "q"):
            with self.assertRaises(UnknownName) as caught:
                circuit(SHUTTLE, {"go": 1}, value)
            self.assertIs(caught.exception.name, value)


if __name__ == "__main__":
    unittest.main()

"""Point 5.1 for recipes with very many elements."""

import random
import unittest

from loopgrowth.errors import InvalidRecipe
from loopgrowth.graphs.graphs import Graph
from loopgrowth.walks.recipes import Recipe, is_items
from samples import graph_of, random_graph
from sums import sums_of

LOOPS = Graph(("x",), ("a", "p", "p", (("x", 1),)), ("b", "p", "p", ()))
MANY = graph_of("u v w x y", *[f"t{letter} p p: u{up:+} v{-up:+} w{9 - up:+} x-{up} y{2 * up - 9:+}"
                               for letter, up in zip("abcdefgh", range(1, 9))])
RING = graph_of("x y", "a p q: x+1", "b q r: y-1", "c r p: x-2 y+1", "d p q: x-1", "e q p: y+2", "f r r: x+1")
LIMIT = 100000


def nested(many, items=("a",)):
    for _ in range(many):
        items = ((2, items),)
    return items


def row_of(source, graph, many):
    """A row of names that change all the time."""
    state, names = graph.states[0], []
    for _ in range(many):
        names.append(source.choice(graph.leaving(state)))
        state = graph[names[-1]][2]
    return tuple(names)


class TestLongRecipes(unittest.TestCase):
    def check(self, graph, row, start):
        """A recipe of a row of names, against a walk step by step."""
        state, length, effect, needs, highest = sums_of(graph, row, start)
        recipe = Recipe.of(graph, row)
        for told in (recipe, Recipe(graph, *row), Recipe.of(graph, row, start)):
            self.assertEqual((told.start, told.end, told.length, told.row), (start, state, length, row))
            self.assertEqual((told.effect, told.needs), (effect, needs))
            self.assertEqual({counter: told.highest(counter) for counter in graph.counters}, highest)
        self.assertEqual({name: recipe.taken(name) for name in graph.names},
                         {name: row.count(name) for name in graph.names})
        for at in {0, 1, 479, 480, 481, length // 2, length - 2, length - 1}:
            if at < length:
                self.assertEqual(recipe[at], row[at])
        self.assertIs(is_items(graph, start, row), True)
        return recipe

    def test_one_name(self):
        for many in (60000, LIMIT - 1, LIMIT):
            wide = self.check(LOOPS, ("a",) * many, "p")
            self.assertEqual((wide.effect, wide.needs, wide.highest("x")), ({"x": many}, {"x": 0}, many))
        for many in (LIMIT + 1, LIMIT + 480):
            row = ("a",) * many
            self.assertIs(is_items(LOOPS, "p", row), False)
            with self.assertRaises(InvalidRecipe):
                Recipe.of(LOOPS, row)
            with self.assertRaises(InvalidRecipe):
                Recipe(LOOPS, *row)

    def test_names_that_change_all_the_time(self):
        source = random.Random(81)
        for many in (60000, LIMIT):
            self.check(LOOPS, ("a", "b") * (many // 2), "p")
            self.check(LOOPS, ("a", "b", "b") * (many // 3), "p")
            for graph in (LOOPS, MANY, RING):
                row = row_of(source, graph, many)
                recipe = self.check(graph, row, "p")
                self.assertEqual(list(recipe.walk())[:1000], list(row[:1000]))
                longer = row_of(source, graph, LIMIT + 1)
                self.assertIs(is_items(graph, "p", longer), False)
                with self.assertRaises(InvalidRecipe):
                    Recipe.of(graph, longer)

    def test_multiples(self):
        for row in (("a",) * 60000, ("a", "b") * 30000, ("a",) * (LIMIT - 1)):
            wide = Recipe.of(LOOPS, row)
            told = wide * 2
            self.assertEqual((told.row, told.length, told.start, told.end), (((2, row),), 2 * len(row), "p", "p"))
            self.assertEqual((told.effect, told.highest("x"), told.needs), ({"x": 2 * row.count("a")},
                                                                            2 * row.count("a"), {"x": 0}))
            self.assertEqual((told[len(row)], told[len(row) + 1]), row[:2])
            self.assertEqual(told.taken("b"), 2 * row.count("b"))
            self.assertIs(is_items(LOOPS, "p", told.row), True)
            self.assertEqual(told, Recipe.of(LOOPS, told.row))
        wide = Recipe.of(LOOPS, ("a",) * LIMIT)
        for many in (0, 1, 2, 10 ** 30):
            with self.assertRaises(InvalidRecipe):
                wide * many
        self.assertIs(is_items(LOOPS, "p", ((2, ("a",) * (LIMIT - 1)),)), True)
        self.assertIs(is_items(LOOPS, "p", ((2, ("a",) * LIMIT),)), False)

    def test_sums_with_deep_ones(self):
        deep = Recipe.of(LOOPS, nested(60))
        for many in (60000, LIMIT - 61):
            wide = Recipe.of(LOOPS, ("a",) * many)
            for told, row in ((deep + wide, nested(60) + ("a",) * many), (wide + deep, ("a",) * many + nested(60))):
                self.assertEqual((told.row, told.length, told.taken("a")), (row, many + 2 ** 60, many + 2 ** 60))
                self.assertEqual((told.effect["x"], told.highest("x"), told.needs["x"]), (many + 2 ** 60,) * 2 + (0,))
                self.assertEqual((told[0], told[2 ** 60], told[many + 2 ** 60 - 1]), ("a",) * 3)
                self.assertEqual(told, Recipe.of(LOOPS, row))
                self.assertIs(is_items(LOOPS, "p", row), True)
                with self.assertRaises(InvalidRecipe):
                    told * 1
        for many in (LIMIT - 60, LIMIT):
            wide = Recipe.of(LOOPS, ("a",) * many)
            for call in (lambda: deep + wide, lambda: wide + deep):
                with self.assertRaises(InvalidRecipe):
                    call()
            self.assertIs(is_items(LOOPS, "p", nested(60) + wide.row), False)

    def test_sums_of_wide_ones(self):
        half = Recipe.of(LOOPS, ("a",) * (LIMIT // 2))
        self.assertEqual((half + half).row, ("a",) * LIMIT)
        self.assertEqual((half + half).length, LIMIT)
        for many in (LIMIT // 2 + 1, 60000, LIMIT):
            wide = Recipe.of(LOOPS, ("a",) * many)
            for call in (lambda: half + wide, lambda: wide + half, lambda: wide + wide):
                with self.assertRaises(InvalidRecipe):
                    call()
        one = Recipe.of(RING, row_of(random.Random(82), RING, 50000), "p")
        back = Recipe.of(RING, {"p": (), "q": ("e",), "r": ("c",)}[one.end], one.end)
        other = Recipe.of(RING, row_of(random.Random(83), RING, 40000), "p")
        row = one.row + back.row + other.row
        told = one + back + other
        state, length, effect, needs, highest = sums_of(RING, row, "p")
        self.assertEqual((told.row, told.end, told.length), (row, state, length))
        self.assertEqual((told.effect, told.needs), (effect, needs))
        self.assertEqual({counter: told.highest(counter) for counter in "xy"}, highest)
        for at in (0, 49999, 50000, 50001, 70000, length - 1):
            self.assertEqual(told[at], row[at])

    def test_elements_of_repeats_count(self):
        inner = ("a",) * 479
        full = ((3, inner),) * (LIMIT // 480) + ("a",) * (LIMIT - LIMIT // 480 * 480)
        self.assertEqual(Recipe.of(LOOPS, full).length, LIMIT // 480 * 479 * 3 + LIMIT % 480)
        self.assertIs(is_items(LOOPS, "p", full), True)
        for value in (full + ("a",), (("a",) + full), full + ((0, ()),)):
            self.assertIs(is_items(LOOPS, "p", value), False)
            with self.assertRaises(InvalidRecipe):
                Recipe.of(LOOPS, value)

    def test_elements_and_depth_of_what_was_joined(self):
        one = Recipe(LOOPS, "a")
        told = Recipe.of(LOOPS, ("a",) * (LIMIT - 3)) * 2 + one
        self.assertEqual((told + one).length, 2 * LIMIT - 4)
        with self.assertRaises(InvalidRecipe):
            told + one + one
        with self.assertRaises(InvalidRecipe):
            (told + one) * 2
        for inner in ((), ("a",), ((0, ("a",)), "b"), ((0, ()),), ((10 ** 30, ()), (0, ((1, ("b",)),)))):
            deepest = 60 - (0 if inner in ((), ("a",)) else 2 if len(inner) == 2 and inner[1] != "b" else 1)
            for rounds in (0, 1, 3):
                items = inner
                for _ in range(deepest - 1):
                    items = ((rounds, items),)
                told = Recipe.of(LOOPS, items) * 3
                self.assertEqual(told, Recipe.of(LOOPS, told.row))
                for call in (lambda: told * 1, lambda: (told + one) * 1, lambda: (one + told) * 1):
                    with self.assertRaises(InvalidRecipe):
                        call()
                self.assertIs(is_items(LOOPS, "p", ((1, told.row),)), False)

    def test_one_wrong_element(self):
        source = random.Random(84)
        rows = [("a",) * 2000, ("a", "b") * 1000, row_of(source, MANY, 2000), row_of(source, RING, 2000),
                ("a", (2, ("b",))) * 600]
        for row, graph in zip(rows, (LOOPS, LOOPS, MANY, RING, LOOPS)):
            self.assertIs(is_items(graph, "p", row), True)
            for at in (0, 1, 11, 12, 478, 479, 480, 481, 959, 960, 961, len(row) - 1):
                for wrong in ("nosuch", "", None, 7, True, (), ["a"], ("a",), (1, "a"), (True, ("ta",)), (-1, ()),
                              (1, ("nosuch",)), (0, (None,))):
                    value = row[:at] + (wrong,) + row[at + 1:]
                    self.assertIs(is_items(graph, "p", value), False, wrong)
                    with self.assertRaises(InvalidRecipe):
                        Recipe.of(graph, value, "p")
        row = rows[3]
        for at in (1, 479, 480, 481, 1500):
            state = RING[row[at]][1]
            for name in RING.names:
                value = row[:at] + (name,) + row[at + 1:]
                right = RING[name][1:3] == RING[row[at]][1:3]
                self.assertIs(is_items(RING, "p", value), right)
                self.assertIs(is_items(RING, "p", row[:at] + ((2, (name,)),) + row[at:]),
                              RING[name][1:3] == (state, state))

    def test_true_is_no_number_where_an_equal_piece_stood(self):
        for right, wrong in [((1, ("a",)), (True, ("a",))), ((0, ("a",)), (False, ("a",))),
                             ((2, ((1, ("a",)),)), (2, ((True, ("a",)),)))]:
            for many in (1, 13, 480, 1000):
                self.assertIs(is_items(LOOPS, "p", (right,) * many), True)
                row = (right,) * many
                for value in (row + (wrong,) * many, (wrong,) + row, row + (wrong,)):
                    self.assertIs(is_items(LOOPS, "p", value), False)
                    with self.assertRaises(InvalidRecipe):
                        Recipe.of(LOOPS, value)

    def test_many_sums_one_after_the_other(self):
        source = random.Random(85)
        for seed in range(3):
            graph = random_graph(seed)
            told = Recipe(graph)
            for _ in range(700):
                state = told.end
                name = source.choice(graph.leaving(state))
                told = told + Recipe(graph, name) if source.random() < 0.8 else told + Recipe(graph, (0, ()), name)
            names = list(told.walk())
            state, length, effect, needs, highest = sums_of(graph, names, graph.states[0])
            self.assertEqual((told.end, told.length, told.effect, told.needs), (state, length, effect, needs))
            self.assertEqual({counter: told.highest(counter) for counter in graph.counters}, highest)
            self.assertEqual(told, Recipe.of(graph, told.row, told.start))
            self.assertEqual([told[at] for at in range(0, length, 97)], names[::97])

    def test_sums_and_multiples_in_turn(self):
        told, length, gained = Recipe(LOOPS), 0, 0
        for at in range(60):
            for name in ("a", "b", "a", "b", "b"):
                told = Recipe(LOOPS, name) + told + Recipe(LOOPS, name)
                length, gained = length + 2, gained + 2 * (name == "a")
            told = told * 3
            length, gained = 3 * length, 3 * gained
        self.assertEqual((told.length, told.effect, told.taken("a")), (length, {"x": gained}, gained))
        self.assertEqual((told[0], told[length - 1]), ("b", "b"))
        self.assertEqual(told[length // 2], Recipe.of(LOOPS, told.row)[length // 2])
        with self.assertRaises(InvalidRecipe):
            told * 2
        self.assertEqual((told + Recipe(LOOPS, "a")).length, length + 1)


if __name__ == "__main__":
    unittest.main()

"""Points 14.1 and 14.2, stage "growing recipes", and 0.20 from below."""

import unittest

from loopgrowth.bounds.bounds import bound
from loopgrowth.bounds.growing import growing, reaches, scale
from loopgrowth.errors import InvalidGraph, InvalidNumber, InvalidRecipe, UnknownName
from loopgrowth.graphs.graphs import Graph
from loopgrowth.levels.growths import growths
from loopgrowth.walks.recipes import Recipe
from samples import (BESIDE, CUBE, DOUBLE, EMPTY, FOURTH, PUMP, SHUTTLE, SIXTH, SQUARE, graph_of, loop_graph,
                     moving_graph, odd_names, odd_numbers, odd_values, random_graph)
from sums import end_of, greatest_numbers, long_sums, need_and_goal, quick_sums, root_of

GREAT = 10 ** 999
# u is raised at p, and v is raised at q by u; w is raised by both, so that there are three ranks.
RANKS = graph_of("u v w z", "a p p: u+1", "b q q: u-2 v+1", "c r r: v-3 u-1 w+1", "d s s: w-1", "pq p q: z-1",
                 "qr q r: z-1", "rs r s: z-1", "sp s p: z-1")
# Two counters are raised at two states, and z moves between them at a cost of both.
APART = graph_of("u v y z", "a p p: u+3", "b q q: v+2", "c r r: u-1 v-5 y-1 z+1", "d r r: y+1 z-1",
                 "pq p q: v-1", "qr q r: u-2", "rp r p: z-1")
# Doubling costs u, which can be raised as often as one likes; the ways cost z.
DEAR = graph_of("u x y z", "a p p: x-1 y+1 u-3", "b q q: y-1 x+2 u-1", "c p p: u+1", "go p q:", "back q p: z-1")
# x and y become three halves of what they were at a time, at a cost of much that is lowered in between.
SLOW = graph_of("x y z", "a p p: x-9 y+8", "b q q: y-7 x+8", "go p q: x-2", "back q p: z-9")
# Moves with great changes, in three states: the stages need more than one for each n.
STEEP = graph_of("x y w v", "a p p: x-9 y+9 w+1", "b q q: y-8 x+8", "go p q:", "back q p: x-7",
                 "c r r: w-9 v+9", "d s s: v-7 w+7", "on r s:", "off s r: w-9", "in p r: v-9", "out r p: x-9")
LOOP = Graph(("x",), ("a", "p", "p", (("x", -1),)))
STILL = Graph(("x", "y"), ("a", "p", "q", ()), ("b", "q", "p", ()))
NAMED = [SHUTTLE, DOUBLE, BESIDE, PUMP, EMPTY, SQUARE, CUBE, FOURTH, SIXTH, RANKS, APART, DEAR, SLOW, STEEP,
         LOOP, STILL]


def more_graphs():
    return NAMED + [loop_graph(seed) for seed in range(24)] + [moving_graph(seed) for seed in range(16)] + \
        [random_graph(seed) for seed in range(12)]


def limit_of(told, number, goal):
    """What 14.2 says for a scale."""
    if told[0] == "power":
        return number * (root_of(goal, told[1]) + 1)
    return number * max(1, len(bin(goal)) - 2) if told[0] == "beyond" else number


def greatest_number(items):
    return max([0] + [max(item[0], greatest_number(item[1])) for item in items if not isinstance(item, str)])


def deepest(items):
    return max([0] + [1 + deepest(item[1]) for item in items if not isinstance(item, str)])


def many_items(items):
    return len(items) + sum(many_items(item[1]) for item in items if not isinstance(item, str))


FOREIGN = [
    (SHUTTLE, (), "p"), (SHUTTLE, ("go", "b", "back"), "p"), (SHUTTLE, ((3, ("a",)),), "p"),
    (SHUTTLE, ((10 ** 40, ((10 ** 20, ("a",)), "go", (10 ** 20, ("b",)), "back")),), "p"),
    (SHUTTLE, ((0, ("a",)), (5, ()), "go"), "p"), (SHUTTLE, ((7, ("a",)), "go", (9, ("b",)), "back", (2, ("a",))), "p"),
    (DOUBLE, ((6, ("b",)), "back", (10 ** 40, ("a",)), "go", (3, ("b",))), "q"),
    (PUMP, ((10 ** 40, ("a",)), "go", (10 ** 39, ("b",)), "back"), "s"), (PUMP, ((10 ** 40, ("b",)),), "t"),
    (PUMP, ((10 ** 30, ("go", (10 ** 10, ("b",)), "back", (10 ** 10 + 1, ("a",)))),), "s"),
    (STILL, ((10 ** 40, ("a", "b")),), "p"), (STILL, (), "q"), (EMPTY, (), "p"), (LOOP, ((10 ** 40, ("a",)),), "p"),
]


class TestGrowing(unittest.TestCase):
    def test_examples(self):
        size, recipe = growing(SHUTTLE, "a", 10 ** 60)
        self.assertEqual([recipe.taken("a") >= 10 ** 60, size <= scale(SHUTTLE) * (10 ** 30 + 1),
                          reaches(SHUTTLE, "a", 10 ** 60, size, recipe)], [True, True, True])
        self.assertEqual([growing(PUMP, "b", 10 ** 900)[0] <= scale(PUMP),
                          reaches(SHUTTLE, "a", 3, 3, Recipe(SHUTTLE, (3, ("a",))))], [True, True])

    def test_the_sums_of_these_tests_agree(self):
        for graph, items, start in FOREIGN:
            self.assertEqual(quick_sums(graph, items), long_sums(graph, items))
            self.assertEqual(end_of(graph, items, start), Recipe.of(graph, items, start).end)

    def test_reaches_just_what_it_can(self):
        for graph, items, start in FOREIGN:
            recipe = Recipe.of(graph, items, start)
            for thing in graph.counters + graph.names:
                need, _ = need_and_goal(graph, thing, 0, recipe)
                for size in (need, need + 1, need + 10 ** 30):
                    _, most = need_and_goal(graph, thing, size, recipe)
                    for goal, told in ((0, True), (max(most - 1, 0), True), (most, True), (most + 1, False)):
                        self.assertIs(reaches(graph, thing, goal, size, recipe), told, (thing, goal, size, items))
                for size in {need - 1, need // 2, 0} - {need, -1}:
                    self.assertIs(reaches(graph, thing, 0, size, recipe), False)

    def test_a_counter_reaches_a_goal_at_the_beginning(self):
        nothing = Recipe(SHUTTLE)
        self.assertEqual([reaches(SHUTTLE, "x", goal, 5, nothing) for goal in (0, 4, 5, 6)], [True, True, True, False])
        # Lowered at once, and never as high again.
        lower = Recipe(SHUTTLE, (5, ("a",)))
        self.assertEqual([reaches(SHUTTLE, "x", goal, 5, lower) for goal in (5, 6)], [True, False])
        self.assertEqual([reaches(SHUTTLE, "y", goal, 5, lower) for goal in (10, 11)], [True, False])
        # In between it is higher than at the end.
        both = Recipe(SHUTTLE, "go", (4, ("b",)), "back", (4, ("a",)))
        self.assertEqual([reaches(SHUTTLE, "x", goal, 4, both) for goal in (8, 9)], [True, False])

    def test_reaches_with_long_goals_and_sizes(self):
        recipe = Recipe(STILL, (GREAT, ("a", "b"))) * GREAT
        for more, told in ((-1, True), (0, True), (1, False)):
            self.assertIs(reaches(STILL, "a", GREAT ** 2 + more, 0, recipe), told)
            self.assertIs(reaches(STILL, "x", GREAT + more, GREAT, recipe), told)

    def check_growing(self, graph, thing, told, goal):
        number = scale(graph)
        pair = growing(graph, thing, goal)
        self.assertIs(type(pair), tuple)
        size, recipe = pair
        self.assertTrue(type(size) is int and isinstance(recipe, Recipe) and recipe.graph == graph)
        self.assertTrue(0 <= size <= limit_of(told, number, goal), (thing, told, goal, size, number))
        self.assertIsNotNone(end_of(graph, recipe.row, recipe.start))
        need, most = need_and_goal(graph, thing, size, recipe)
        self.assertTrue(need <= size and goal <= most, (thing, told, goal, size))
        self.assertTrue(reaches(graph, thing, goal, size, recipe))
        self.assertLess(many_items(recipe.row), 60000)
        self.assertLess(deepest(recipe.row), 30)
        if goal < 10 ** 100:
            self.assertLess(max(size, greatest_number(recipe.row)), GREAT * 10)
        return size, recipe

    def test_growing_of_each_growth(self):
        seen = set()
        for graph in more_graphs():
            number = scale(graph)
            self.assertTrue(type(number) is int and 1 <= number <= 10 ** 120)
            for thing, told in growths(graph).items():
                seen.add((told, thing in graph))
                for goal in (0, 1, 2, 3, 10, 1000, number, number ** 2 + 1, 7 * number ** 3, 10 ** 40, 10 ** 100 - 1):
                    self.check_growing(graph, thing, told, goal)
        for told in [("power", 1), ("power", 2), ("power", 3), ("power", 4), ("beyond",), ("free", 0), ("free", 1)]:
            self.assertTrue({(told, True), (told, False)} <= seen or told[0] == "power", told)
        self.assertTrue({(("power", 6), True), (("power", 4), False), (("free", 2), False),
                         (("free", 3), True)} <= seen)

    def test_growing_with_long_goals(self):
        for graph in NAMED:
            for thing, told in growths(graph).items():
                for goal in (10 ** 500, GREAT - 1, GREAT, 10 * GREAT - 1):
                    self.check_growing(graph, thing, told, goal)

    def test_goals_beside_powers(self):
        for graph in (SHUTTLE, SQUARE, CUBE, SIXTH, STEEP):
            for thing, told in growths(graph).items():
                for base in (2, 3, 10, 97, 10 ** 9):
                    for less in (-1, 0, 1):
                        self.check_growing(graph, thing, told, base ** told[1] + less)

    def test_goals_of_each_number_of_digits(self):
        for graph in (DOUBLE, SLOW, DEAR):
            for digits in [*range(1, 70), *range(70, 140, 7), *range(140, 3300, 197)]:
                for goal in (2 ** (digits - 1), 2 ** digits - 1):
                    self.check_growing(graph, "x", ("beyond",), goal)
                    self.check_growing(graph, "a", ("beyond",), goal)

    def test_recipes_take_what_they_are_for(self):
        # With a size this small, the recipes have to do more than to begin.
        for graph, thing in ((CUBE, "w"), (DOUBLE, "x"), (PUMP, "u"), (RANKS, "w"), (SIXTH, "u")):
            goal = scale(graph) ** 9 + 10 ** 90
            size, recipe = growing(graph, thing, goal)
            self.assertLess(size, goal)
            self.assertGreaterEqual(size + recipe.highest(thing), goal)

    def test_scale_is_the_same_whatever_was_asked_before(self):
        for make in (lambda: loop_graph(3), lambda: moving_graph(2), lambda: SHUTTLE.without(),
                     lambda: RANKS.with_transitions(), lambda: SLOW.without()):
            first, second = make(), make()
            number = scale(first)
            for thing in second.counters + second.names:
                growing(second, thing, 10 ** 50)
            self.assertEqual([scale(second), scale(first)], [number, number])
            for thing in first.counters + first.names:
                one, two = growing(first, thing, 10 ** 30), growing(second, thing, 10 ** 30)
                self.assertEqual((one[0], one[1].row, one[1].start), (two[0], two[1].row, two[1].start))

    def test_a_graph_without_transitions(self):
        self.assertGreaterEqual(scale(EMPTY), 1)
        for goal in (0, 1, 7, GREAT):
            size, recipe = self.check_growing(EMPTY, "x", ("power", 1), goal)
            self.assertTrue(size >= goal and not recipe)

    def test_from_both_sides(self):
        for graph in [SHUTTLE, SQUARE, CUBE, LOOP, STILL, PUMP, DOUBLE] + [moving_graph(seed) for seed in range(6)]:
            told = growths(graph)
            for size in range(4):
                most = greatest_numbers(graph, size, [thing for thing in graph.counters if told[thing][0] == "free"])
                for thing in most or {}:
                    if told[thing][0] == "power":
                        self.assertLessEqual(most[thing], bound(graph, thing)(size))
            for thing in told:
                if told[thing][0] == "power":
                    for goal in (1, 10, 10 ** 6, 10 ** 50):
                        size, recipe = growing(graph, thing, goal)
                        reached = recipe.taken(thing) if thing in graph else size + recipe.highest(thing)
                        self.assertTrue(goal <= reached <= bound(graph, thing)(size))

    def test_the_first_error_that_applies(self):
        recipe = Recipe(SHUTTLE, "a")
        for value in odd_values():
            if not isinstance(value, Graph):
                for call in (lambda one: scale(one), lambda one: growing(one, "nosuch", -1),
                             lambda one: reaches(one, "nosuch", -1, -1, None)):
                    with self.assertRaises(InvalidGraph):
                        call(value)
        for value in odd_names("a", "x"):
            for call in (lambda one: growing(SHUTTLE, one, -1), lambda one: reaches(SHUTTLE, one, -1, -1, None)):
                with self.assertRaises(UnknownName) as caught:
                    call(value)
                self.assertIs(caught.exception.name, value)
        for value in odd_numbers():
            for call in (lambda one: growing(SHUTTLE, "a", one), lambda one: growing(EMPTY, "x", one),
                         lambda one: reaches(SHUTTLE, "x", one, -7, None),
                         lambda one: reaches(SHUTTLE, "x", 1, one, None)):
                with self.assertRaises(InvalidNumber) as caught:
                    call(value)
                self.assertIs(caught.exception.value, value)
        for value in odd_values() + [Recipe(DOUBLE, "a"), Recipe(PUMP), recipe.row, "a"]:
            with self.assertRaises(InvalidRecipe):
                reaches(SHUTTLE, "a", 1, 1, value)
        same = Graph.of(SHUTTLE.counters, SHUTTLE.transitions)
        self.assertTrue(reaches(same, "a", 1, 1, recipe))


if __name__ == "__main__":
    unittest.main()

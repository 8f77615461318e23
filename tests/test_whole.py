"""What the document promises over the whole program: 0.1 to 0.7 and 0.20, for all functions and classes together."""

import copy
import inspect
import random
import unittest

import loopgrowth.errors as errors
from loopgrowth.bounds import bounds, force, growing
from loopgrowth.bounds.polynomials import Polynomial
from loopgrowth.change import operations
from loopgrowth.exact import systems
from loopgrowth.graphs import graphs, parts
from loopgrowth.graphs.graphs import Graph
from loopgrowth.language import programs
from loopgrowth.levels import beyond, endless, growths, levels, ranks
from loopgrowth.levels.balances import Balance
from loopgrowth.live.workshop import Workshop
from loopgrowth.text import formats
from loopgrowth.text.shell import Shell
from loopgrowth.walks import recipes
from loopgrowth.walks.machine import Machine
from loopgrowth.walks.recipes import Recipe
from samples import (CUBE, DOUBLE, EMPTY, PUMP, SHUTTLE, SIXTH, loop_graph, moving_graph, nested, odd_values,
                     scaled_papers)

SYSTEM = (("least", (-1, 1, 0)), ("least", (1, -1, -1)), ("equal", (0, 0, 0)))
PLAN = (("step", "go", ()), ("repeat", (("step", "a", (("x", -1),)),)), ("step", "back", (("z", -1),)))
ROUND = {"go": 1, "back": 1}
RECIPE = Recipe(SHUTTLE, (3, ("a",)), "go")
MEETING = Balance(SHUTTLE, SHUTTLE.names, {}).meeting()
DOUBLING = ({"a": 3, "b": 2}, ("x", "y"))

# Each function with arguments that are right.
CALLS = [
    (systems.is_system, SYSTEM), (systems.solution, SYSTEM), (systems.carried_columns, SYSTEM),
    (systems.is_solution, SYSTEM, systems.solution(SYSTEM)), (systems.gained_rows, SYSTEM),
    (systems.alternative, SYSTEM, 2), (systems.is_alternative, SYSTEM, 2, systems.alternative(SYSTEM, 2)),
    (systems.row_alternative, SYSTEM, 1), (systems.is_row_alternative, SYSTEM, 1, systems.row_alternative(SYSTEM, 1)),
    (graphs.is_transition, SHUTTLE["a"]), (parts.components, SHUTTLE, ("a", "b")),
    (parts.is_returning, SHUTTLE, ("a", "b")), (parts.way, SHUTTLE, "p", "q"),
    (parts.is_circulation, SHUTTLE, ROUND), (parts.effect, SHUTTLE, ROUND), (parts.cycles, SHUTTLE),
    (parts.packed, SHUTTLE, ROUND), (parts.is_packed, SHUTTLE, ROUND, parts.packed(SHUTTLE, ROUND)),
    (parts.full_circulation, SHUTTLE), (recipes.is_items, SHUTTLE, "p", RECIPE.row),
    (recipes.circuit, SHUTTLE, {"a": 3}, "p"), (endless.endless, PUMP, ("u", "z")), (endless.every_run_ends, PUMP),
    (endless.endless_paper, PUMP, ("z",)),
    (endless.is_endless_paper, PUMP, ("z",), endless.endless_paper(PUMP, ("z",))),
    (endless.endless_walk, PUMP, ("u", "z"), "u"), (ranks.free, PUMP), (ranks.ranks_paper, PUMP),
    (ranks.is_ranks_paper, PUMP, ranks.ranks_paper(PUMP)), (ranks.free_walk, PUMP, "b"), (levels.levels, SHUTTLE),
    (levels.exponents, SHUTTLE), (levels.rest, SHUTTLE), (levels.level_balance, SHUTTLE, 2),
    (levels.levels_paper, SHUTTLE), (levels.is_levels_paper, SHUTTLE, levels.levels_paper(SHUTTLE)),
    (levels.exponents_of, SHUTTLE, levels.levels_paper(SHUTTLE)), (beyond.beyond, DOUBLE), (beyond.doubling, DOUBLE),
    (beyond.is_doubling, DOUBLE, DOUBLING), (beyond.joined_doublings, DOUBLE, DOUBLING, DOUBLING),
    (growths.growths, PUMP), (growths.growth, PUMP, "b"), (growths.growth_paper, PUMP),
    (growths.is_growth_paper, PUMP, growths.growth_paper(PUMP)),
    (growths.growths_by, PUMP, growths.growth_paper(PUMP)), (growths.is_growth, ("power", 2)),
    (growths.compared, ("power", 2), ("beyond",)), (growths.greatest_growth, ("power", 2), ("free", 3)),
    (growths.steps_growth, DOUBLE), (bounds.bound, SHUTTLE, "a"), (bounds.bounds, SHUTTLE),
    (bounds.level_bounds, SHUTTLE, levels.levels_paper(SHUTTLE)), (growing.scale, SHUTTLE),
    (growing.growing, SHUTTLE, "a", 10 ** 9), (growing.reaches, SHUTTLE, "a", 3, 3, RECIPE), (force.met, SHUTTLE, 1),
    (force.longest, SHUTTLE, 1), (force.greatest, SHUTTLE, "a", 1), (force.greatest_run, SHUTTLE, "a", 1),
    (operations.scaled, SHUTTLE, "x", 2), (operations.counted, SHUTTLE, "a", "m"),
    (operations.copied, SHUTTLE, "a", "c"), (operations.halved, SHUTTLE, "a", "c", "r"),
    (operations.joined, SHUTTLE, Graph(("z",), ("up", "p", "p", ())), "p"), (operations.allows, SHUTTLE, DOUBLE),
    (programs.is_program, PLAN), (programs.compiled, PLAN), (programs.program_text, PLAN),
    (programs.read_program, programs.program_text(PLAN)), (programs.listing, PLAN), (formats.graph_text, PUMP),
    (formats.growth_text, ("free", 1)), (formats.table_text, PUMP), (formats.recipe_text, RECIPE),
    (formats.read_graph, formats.graph_text(PUMP)), (formats.read_growth, "n^2"),
    (formats.read_recipe, SHUTTLE, "from p 3(a) go"),
]
GENERATORS = (parts.cycles, levels.levels)
# Values that are wrong wherever they stand, but for what is_ functions take and new names.
ALWAYS_WRONG = [None, True, {1: 2}, [], 10 ** 999, "A B", (None,), nested(9)]
NEW_NAMES = {(operations.counted, 2), (operations.copied, 2), (operations.halved, 2), (operations.halved, 3)}
OWN_ERRORS = tuple(one for _, one in inspect.getmembers(errors, inspect.isclass))


def called(function, *arguments):
    return list(function(*arguments)) if function in GENERATORS else function(*arguments)


def described(value):
    """An answer as something that can be compared."""
    if isinstance(value, Recipe):
        return "recipe", value.row, value.start
    if isinstance(value, dict):
        return tuple((described(key), described(one)) for key, one in value.items())
    if isinstance(value, (tuple, list)):
        return tuple(described(one) for one in value)
    if isinstance(value, (Polynomial, Balance, Graph)):
        return str(value)
    return value


def parts_of(value):
    """The value, and all values within it."""
    yield value
    if isinstance(value, dict):
        for pair in value.items():
            yield from parts_of(pair[0])
            yield from parts_of(pair[1])
    elif isinstance(value, (tuple, list)):
        for one in value:
            yield from parts_of(one)


def returned_values():
    told = [called(function, *arguments) for function, *arguments in CALLS]
    told += [Machine(SHUTTLE, 3), RECIPE, Balance(SHUTTLE, (), {}), Polynomial(1, 2), Workshop(), Shell(), MEETING]
    return told + [one for value in told for one in parts_of(value)][::7]


def error_of(call):
    """The class and the value of the error that is raised, or None."""
    try:
        call()
    except OWN_ERRORS as error:
        kept = [getattr(error, name) for name in ("value", "name", "limit", "counter", "many")
                if name in vars(error)]
        return type(error), kept
    return None


class TestWhole(unittest.TestCase):
    def test_all_functions_are_looked_at(self):
        looked = {function for function, *_ in CALLS}
        modules = (systems, graphs, parts, recipes, endless, ranks, levels, beyond, growths, bounds, growing, force,
                   operations, programs, formats)
        # Functions that the modules share with one another are none of the interface.
        shared = {"reached", "kept", "keep", "lies_in", "check_circulation", "rotated", "round_trip", "free_ranks",
                  "ascent_of", "check_levels_paper", "natural_of", "transition_text", "transition_of"}
        for module in modules:
            for name, function in inspect.getmembers(module, inspect.isfunction):
                if function.__module__ == module.__name__ and not name.startswith("_") and name not in shared:
                    self.assertIn(function, looked, name)

    def test_sequences_are_tuples_and_keys_ascend(self):
        for function, *arguments in CALLS:
            value = function(*arguments)
            if function in GENERATORS:
                self.assertTrue(inspect.isgenerator(value))
                value = tuple(value)
            for one in parts_of(value):
                self.assertNotIsInstance(one, (list, set, frozenset), function)
                if isinstance(one, dict):
                    self.assertIs(type(one), dict)
                    keys = list(one)
                    self.assertEqual(keys, sorted(keys), function)
                if isinstance(one, int) and not isinstance(one, bool):
                    self.assertLess(abs(one), 10 ** 900)

    def test_numbers_of_papers_are_short(self):
        for graph in [SIXTH, CUBE] + [loop_graph(seed) for seed in range(60)] + [moving_graph(s) for s in range(30)]:
            for value in (growths.growth_paper(graph), beyond.doubling(graph)):
                for one in parts_of(value):
                    if isinstance(one, int):
                        self.assertLess(abs(one), 10 ** 900)
            told = bounds.bounds(graph)
            self.assertTrue(all(max(told[thing].coefficients) < 10 ** 4000 for thing in told))

    def test_arguments_stay_and_equal_calls_are_equal(self):
        for function, *arguments in CALLS:
            before = copy.deepcopy(arguments)
            first = described(called(function, *arguments))
            self.assertEqual(described(arguments), described(before), function)
            self.assertEqual(described(called(function, *before)), first, function)
            self.assertEqual(described(called(function, *arguments)), first, function)

    def test_what_is_returned_gives_no_access(self):
        for function, *arguments in CALLS:
            first = called(function, *arguments)
            expected = described(first)
            for one in parts_of(first):
                if isinstance(one, dict):
                    one.clear()
            self.assertEqual(described(called(function, *arguments)), expected, function)

    def test_is_functions_take_every_value(self):
        values = odd_values() + returned_values() + [nested(10), [[[[]]]], {"a": {"b": {"c": ()}}}]
        for function, *arguments in CALLS:
            if function.__name__.startswith("is_"):
                self.assertEqual(list(inspect.signature(function).parameters)[-1].startswith("value"),
                                 function is not parts.is_returning)
                if function is not parts.is_returning:
                    self.assertIs(function(*arguments), True, function)
                    for value in values:
                        self.assertIn(function(*arguments[:-1], value), (True, False))
                        self.assertIs(type(function(*arguments[:-1], value)), bool)
        balance = Balance(SHUTTLE, SHUTTLE.names, {})
        for value in values:
            self.assertIs(type(balance.is_meeting(value)), bool)

    def test_errors_are_those_of_the_document(self):
        odd = odd_values() + [Polynomial(1), RECIPE, Machine(SHUTTLE, 1), Workshop(), Shell(), Balance(SHUTTLE, (), {})]
        for function, *arguments in CALLS:
            for at in range(len(arguments)):
                for value in odd:
                    other = arguments[:at] + [value] + arguments[at + 1:]
                    before = described(other)
                    # Nothing but an own error comes out, or an answer.
                    error_of(lambda: called(function, *other))
                    self.assertEqual(described(other), before)

    def test_the_first_argument_that_is_wrong(self):
        looked = 0
        for function, *arguments in CALLS:
            taken = function.__name__.startswith("is_") and function is not parts.is_returning
            places = [at for at in range(len(arguments) - taken) if (function, at) not in NEW_NAMES]
            for one in places:
                for two in [at for at in range(one + 1, len(arguments)) if not taken or at < len(arguments) - 1]:
                    for value in ALWAYS_WRONG:
                        for other in ALWAYS_WRONG:
                            self.check_first(function, arguments, (one, value), (two, other))
                            looked += 1
        self.assertGreater(looked, 3000)

    def check_first(self, function, arguments, first, second):
        alone = list(arguments)
        alone[first[0]] = first[1]
        told = error_of(lambda: called(function, *alone))
        number = first[1] == 10 ** 999 and function in (growing.growing, growing.reaches, force.met, force.longest,
                                                        force.greatest, force.greatest_run)
        if told is None or number:
            return
        both = list(alone)
        both[second[0]] = second[1]
        self.assertEqual(error_of(lambda: called(function, *both)), told, (function, first, second))

    def test_generators_raise_at_their_first_result(self):
        shell, machine = Shell(), Machine(SHUTTLE, 1)
        for make, error in ((lambda: parts.cycles(None), errors.InvalidGraph),
                            (lambda: levels.levels(None), errors.InvalidGraph),
                            (lambda: machine.walk(["a"]), errors.InvalidOperation),
                            (lambda: machine.walk(("back",)), errors.InvalidOperation),
                            (lambda: shell.do_all(["names"]), errors.InvalidCommand),
                            (lambda: shell.do_all(("nosuch",)), errors.InvalidCommand)):
            told = make()
            self.assertTrue(inspect.isgenerator(told))
            with self.assertRaises(error):
                next(told)
        for told in (Workshop().news(), RECIPE.walk(), parts.cycles(SHUTTLE), levels.levels(SHUTTLE)):
            self.assertTrue(inspect.isgenerator(told))

    def test_equality_takes_every_value(self):
        own = [SHUTTLE, Machine(SHUTTLE, 1), RECIPE, Balance(SHUTTLE, (), {}), Polynomial(1), Workshop()]
        for one in own:
            for value in odd_values() + own + [Shell()]:
                same = one is value or one == SHUTTLE and isinstance(value, Graph) and value.names == SHUTTLE.names
                self.assertIs(one == value, same)
                self.assertIs(one != value, not same)

    def test_what_can_be_iterated_over(self):
        shop = Workshop()
        for value in (SHUTTLE, Polynomial(1, 2), shop):
            self.assertEqual(list(value), list(iter(value)))
        for value in (Machine(SHUTTLE, 1), RECIPE, Balance(SHUTTLE, (), {}), Shell()):
            with self.assertRaises(TypeError):
                iter(value)

    def test_papers_of_others_are_taken(self):
        for graph in (SHUTTLE, DOUBLE, PUMP, CUBE, EMPTY):
            paper = growths.growth_paper(graph)
            for other in [paper] + scaled_papers(paper):
                self.assertTrue(growths.is_growth_paper(graph, other))
                self.assertEqual(growths.growths_by(graph, other), growths.growths(graph))

    def check_growths(self, graph):
        """The main guarantee for one graph."""
        told, free, found = growths.growths(graph), ranks.free(graph), levels.exponents(graph)
        self.assertEqual(list(told), sorted(graph.counters + graph.names))
        for thing, one in told.items():
            expected = ("free", free[thing]) if thing in free else ("power", found[thing]) if thing in found \
                else ("beyond",)
            self.assertEqual(one, expected)
            self.assertFalse(thing in free and thing in found)
            bound = bounds.bound(graph, thing)
            self.assertEqual(None if bound is None else bound.degree, found.get(thing))
            size, recipe = growing.growing(graph, thing, 1000)
            self.assertTrue(growing.reaches(graph, thing, 1000, size, recipe))
            if bound is not None:
                self.assertLessEqual(recipe.taken(thing) if thing in graph else size + recipe.highest(thing),
                                     bound(size))
        self.assertEqual(endless.every_run_ends(graph), not any(free.get(name) == 0 for name in graph.names))
        self.assertEqual(growths.growths_by(graph, growths.growth_paper(graph)), told)
        self.assertEqual(set(beyond.beyond(graph)[0] + beyond.beyond(graph)[1]),
                         {thing for thing in told if told[thing] == ("beyond",)})

    def test_the_main_guarantee_in_a_workshop(self):
        source = random.Random(20)
        for seed in range(14):
            shop = Workshop()
            shop.make(("put", "m", loop_graph(seed, most=8) if seed % 2 else moving_graph(seed)))
            for _ in range(8):
                before = shop["m"]
                kind = source.randint(0, 3)
                if kind == 0 and len(shop.log) > 1:
                    shop.undo()
                elif kind == 1 and len(before) > 1:
                    error_of(lambda: shop.make(("cut", "m", source.choice(before.names))))
                else:
                    row = ("n" + "abcdefgh"[len(shop.log) % 8], source.choice(before.states),
                           source.choice(before.states),
                           ((source.choice(before.counters), source.choice((-2, -1, 1))),))
                    if error_of(lambda: shop.make(("add", "m", row))) is None:
                        less, more = growths.growths(before), growths.growths(shop["m"])
                        for thing in less:
                            self.assertIn(growths.compared(less[thing], more[thing]), ("less", "equal"))
                self.check_growths(shop["m"])
                self.assertEqual({thing: shop.growth("m", thing) for thing in growths.growths(shop["m"])},
                                 growths.growths(Graph.of(shop["m"].counters, shop["m"].transitions, shop["m"].states)))

    def test_greater_changes_make_no_growth_less(self):
        source = random.Random(21)
        for seed in range(40):
            graph = loop_graph(seed, most=9) if seed % 2 else moving_graph(seed)
            told = growths.growths(graph)
            rows = []
            for name, begin, end, change in graph:
                amounts = {counter: dict(change).get(counter, 0) for counter in graph.counters}
                if source.random() < 0.4:
                    counter = source.choice(graph.counters)
                    amounts[counter] = min(9, amounts[counter] + source.randint(1, 3))
                rows.append((name, begin, end, tuple(pair for pair in sorted(amounts.items()) if pair[1])))
            other = Graph.of(graph.counters, tuple(rows))
            self.assertTrue(operations.allows(other, graph))
            more = growths.growths(other)
            for thing in told:
                self.assertIn(growths.compared(told[thing], more[thing]), ("less", "equal"))

    def test_what_is_not_true(self):
        told = growths.growths(SIXTH)
        self.assertEqual({one[1] for one in told.values()}, {1, 2, 4, 6})
        self.assertGreater(max(one[1] for one in told.values()), len(SIXTH.counters))
        # All exponents of PUMP are found, and transitions are left; b has no greatest number and no endless walk.
        self.assertEqual(levels.rest(PUMP), (("a", "b"), ()))
        self.assertEqual([endless.endless_walk(PUMP, PUMP.counters, "b"), growths.growth(PUMP, "b")],
                         [None, ("free", 1)])
        # Every run of DOUBLE ends, and the greatest length is no polynomial.
        self.assertEqual([endless.every_run_ends(DOUBLE), growths.steps_growth(DOUBLE)], [True, ("beyond",)])
        # The same effects of simple cycles: two moves at one state are free, at two states they are not.
        near = Graph(("x", "y", "z"), *[(name, "p", "p", SHUTTLE[name][3]) for name in ("a", "b", "back")])
        self.assertEqual([growths.growth(near, "a"), growths.growth(SHUTTLE, "a")], [("free", 0), ("power", 2)])


if __name__ == "__main__":
    unittest.main()

"""The interface: each name is defined in the file, and each method in the class, under which it is listed."""

import ast
import inspect
import unittest
from pathlib import Path

from loopgrowth.bounds.force import MAX_MET
from loopgrowth.bounds.polynomials import Polynomial
from loopgrowth.graphs.graphs import Graph
from loopgrowth.levels.balances import Balance
from loopgrowth.live.workshop import MAX_GRAPHS, Workshop
from loopgrowth.text.shell import Shell
from loopgrowth.walks.machine import Machine
from loopgrowth.walks.recipes import MAX_ITEMS, Recipe
from samples import SHUTTLE

ROOT = Path(__file__).resolve().parent.parent

FUNCTIONS = {
    "loopgrowth.exact.systems": {
        "is_system": "(value)", "solution": "(system)", "is_solution": "(system, value)",
        "carried_columns": "(system)", "gained_rows": "(system)", "alternative": "(system, column)",
        "is_alternative": "(system, column, value)", "row_alternative": "(system, row)",
        "is_row_alternative": "(system, row, value)",
    },
    "loopgrowth.graphs.graphs": {"is_transition": "(value)"},
    "loopgrowth.graphs.parts": {
        "components": "(graph, names)", "is_returning": "(graph, names)", "way": "(graph, state, other)",
        "is_circulation": "(graph, value)", "effect": "(graph, amounts, *, part=None)", "cycles": "(graph)",
        "packed": "(graph, amounts)", "is_packed": "(graph, amounts, value)", "full_circulation": "(graph)",
    },
    "loopgrowth.levels.endless": {
        "endless": "(graph, counters)", "every_run_ends": "(graph)", "endless_paper": "(graph, counters)",
        "is_endless_paper": "(graph, counters, value)", "endless_walk": "(graph, counters, thing)",
    },
    "loopgrowth.levels.ranks": {
        "free": "(graph)", "ranks_paper": "(graph)", "is_ranks_paper": "(graph, value)", "free_walk": "(graph, thing)",
    },
    "loopgrowth.levels.levels": {
        "levels": "(graph)", "exponents": "(graph)", "rest": "(graph)", "level_balance": "(graph, level)",
        "levels_paper": "(graph)", "is_levels_paper": "(graph, value)", "exponents_of": "(graph, paper)",
    },
    "loopgrowth.levels.beyond": {
        "beyond": "(graph)", "doubling": "(graph)", "is_doubling": "(graph, value)",
        "joined_doublings": "(graph, one, other)",
    },
    "loopgrowth.levels.growths": {
        "growths": "(graph)", "growth": "(graph, thing)", "growth_paper": "(graph)",
        "is_growth_paper": "(graph, value)", "growths_by": "(graph, paper)", "is_growth": "(value)",
        "compared": "(growth, other)", "greatest_growth": "(*growths)", "steps_growth": "(graph)",
    },
    "loopgrowth.bounds.bounds": {
        "bound": "(graph, thing)", "bounds": "(graph)", "level_bounds": "(graph, paper)",
    },
    "loopgrowth.bounds.growing": {
        "scale": "(graph)", "growing": "(graph, thing, goal)", "reaches": "(graph, thing, goal, size, recipe)",
    },
    "loopgrowth.bounds.force": {
        "met": "(graph, size, *, without=())", "longest": "(graph, size, *, without=())",
        "greatest": "(graph, thing, size, *, without=())", "greatest_run": "(graph, thing, size, *, without=())",
    },
    "loopgrowth.change.operations": {
        "scaled": "(graph, counter, factor)", "counted": "(graph, name, counter)", "copied": "(graph, name, other)",
        "halved": "(graph, name, other, state)", "joined": "(one, other, state)", "allows": "(graph, other)",
    },
    "loopgrowth.language.programs": {
        "is_program": "(value)", "compiled": "(program)", "program_text": "(program)", "read_program": "(text)",
        "listing": "(program)",
    },
    "loopgrowth.text.formats": {
        "graph_text": "(graph)", "growth_text": "(growth)", "table_text": "(graph)", "recipe_text": "(recipe)",
        "read_graph": "(text)", "read_growth": "(text)", "read_recipe": "(graph, text)",
    },
    "loopgrowth.walks.recipes": {"is_items": "(graph, state, value)", "circuit": "(graph, amounts, state)"},
}

METHODS = {
    Graph: ("counters states names transitions __getitem__ __contains__ __len__ __bool__ __iter__ __eq__ __str__ change"
            " leaving entering with_transitions without with_counter without_counter renamed of"),
    Machine: ("graph state loads steps log possible take take_all walk taken highest back trial attempt twin"
              " __contains__ __eq__ __str__"),
    Recipe: ("of graph row start end length effect needs taken highest after __add__ __mul__ walk __getitem__ __bool__"
             " __eq__ __str__"),
    Balance: ("graph names parts rows meeting is_meeting fall effect_on added falling carried weighted gained __len__"
              " __eq__ __str__"),
    Polynomial: ("of coefficients degree __call__ __getitem__ reach __add__ __radd__ __mul__ __rmul__ __pow__ at"
                 " __iter__ __len__ __bool__ __eq__ __str__"),
    Workshop: ("names log watches __getitem__ growth make make_all undo redo watch unwatch news trial attempt twin"
               " __iter__ __contains__ __len__ __eq__ __str__"),
    Shell: "do do_all present log workshop __len__",
}

SIGNATURES = {
    Graph: "(counters, *transitions, states=())", Graph.of: "(counters, transitions, states=())",
    Graph.with_transitions: "(self, *transitions)", Graph.without: "(self, *names)",
    Graph.with_counter: "(self, counter, changes)", Graph.without_counter: "(self, counter)",
    Graph.renamed: "(self, kind, names)", Machine: "(graph, size, *, start=None)", Machine.take: "(self, *names)",
    Machine.take_all: "(self, names)", Machine.walk: "(self, names)", Machine.back: "(self, *, many=1)",
    Machine.attempt: "(self, action)", Recipe: "(graph, *items, start=None)", Recipe.of: "(graph, items, start=None)",
    Recipe.after: "(self, loads)", Balance: "(graph, names, parts)", Balance.fall: "(self, meeting, name)",
    Polynomial: "(*coefficients)", Polynomial.of: "(coefficients)", Polynomial.reach: "(self, goal)",
    Workshop: "()", Workshop.growth: "(self, name, thing)", Workshop.make: "(self, *edits)",
    Workshop.make_all: "(self, step)", Workshop.undo: "(self, *, many=1)", Workshop.redo: "(self, *, many=1)",
    Workshop.watch: "(self, name, thing)", Workshop.unwatch: "(self, name, thing)", Workshop.news: "(self)",
    Workshop.trial: "(self)", Workshop.attempt: "(self, action)", Workshop.twin: "(self)",
    Shell: "(workshop=None)", Shell.do: "(self, line)", Shell.do_all: "(self, lines)", Shell.workshop: "(self)",
    Balance.effect_on: "(self, meeting, row)", Balance.added: "(self, meeting, other)",
}


class TestInterface(unittest.TestCase):
    def test_functions_are_defined_in_their_files(self):
        for module, functions in FUNCTIONS.items():
            tree = ast.parse((ROOT / (module.replace(".", "/") + ".py")).read_text())
            defined = {node.name for node in tree.body if isinstance(node, ast.FunctionDef)}
            loaded = __import__(module, fromlist=["x"])
            for name, parameters in functions.items():
                self.assertIn(name, defined)
                self.assertEqual(str(inspect.signature(getattr(loaded, name))), parameters, name)

    def test_methods_are_defined_in_their_classes(self):
        for one, names in METHODS.items():
            for name in names.split():
                self.assertIn(name, vars(one), (one, name))

    def test_parameters(self):
        for call, parameters in SIGNATURES.items():
            self.assertEqual(str(inspect.signature(call)), parameters)

    def test_constants(self):
        self.assertEqual([MAX_ITEMS, MAX_MET, MAX_GRAPHS], [100000, 3000, 20])

    def test_what_cannot_be_iterated_over(self):
        balance = Balance(SHUTTLE, SHUTTLE.names, {})
        for value in (Machine(SHUTTLE, 1), Recipe(SHUTTLE, "a"), balance, Shell()):
            with self.assertRaises(TypeError):
                iter(value)
            with self.assertRaises(TypeError):
                list(value)


if __name__ == "__main__":
    unittest.main()

"""Points 0.8 and 0.9 and stage "graphs"."""

import itertools
import random
import unittest

from loopgrowth.errors import InvalidGraph, InvalidOperation, UnknownName
from loopgrowth.graphs.graphs import Graph, is_transition
from samples import DOUBLE, EMPTY, PUMP, SHUTTLE, nested, odd_names, odd_values, random_graph

STEP = ("a", "p", "q", (("x", -1), ("y", 9)))
BACK = ("b", "q", "p", ())


class TestTransitions(unittest.TestCase):
    def test_transitions(self):
        for value in [STEP, BACK, ("abcdefgh", "a", "a", ()), ("a", "a", "a", (("a", -9),)), SHUTTLE["back"],
                      ("z", "zzzzzzzz", "p", tuple((one, 1) for one in "abcdefghij"))]:
            self.assertIs(is_transition(value), True, value)

    def test_names_in_each_place(self):
        bad = ["", "abcdefghi", "A", "aB", "a1", "a ", "a\n", "_", "-", 1, None, True, ("a",), ["a"], {}, b"a", SHUTTLE]
        for name in bad:
            for at in range(3):
                value = STEP[:at] + (name,) + STEP[at + 1:]
                self.assertIs(is_transition(value), False, value)
            self.assertIs(is_transition(STEP[:3] + (((name, 1),),)), False, name)

    def test_changes(self):
        for change in [None, [], {}, "x", 1, {"x": 1}, [("x", 1)], (["x", 1],), (("x", 0),), (("x", 10),),
                       (("x", -10),), (("x", True),), (("x", "1"),), (("x", None),), (("x", 1, 1),), (("x",),),
                       ("x", 1),
                       ("x1",),
                       (("x", 1), ("x", 1)), (("y", 1), ("x", 1)), (("x", 1), None), ((), ()), (("x", 10 ** 999),),
                       ((("x", 1),),), nested(9)]:
            self.assertIs(is_transition(STEP[:3] + (change,)), False, change)

    def test_other_values(self):
        for value in odd_values() + [list(STEP), STEP[:3], STEP + (1,), (STEP,), "apqx", dict(enumerate(STEP))]:
            if value != SHUTTLE["a"]:
                self.assertIs(is_transition(value), False, value)


class TestGraphs(unittest.TestCase):
    def test_examples(self):
        self.assertEqual([SHUTTLE.states, SHUTTLE.names, SHUTTLE["go"], SHUTTLE.change("a"), SHUTTLE.leaving("q"),
                          str(PUMP)],
                         [("p", "q"), ("a", "b", "back", "go"), ("go", "p", "q", ()), {"x": -1, "y": 1, "z": 0},
                          ("b", "back"), "graph of 2 states, 2 counters, 4 transitions"])
        self.assertEqual(list(SHUTTLE.change("a")), ["x", "y", "z"])
        self.assertEqual(DOUBLE["b"], ("b", "q", "q", (("x", 2), ("y", -1))))

    def test_orders_and_repeats(self):
        rows = SHUTTLE.transitions
        for order in itertools.permutations(rows):
            graph = Graph(("z", "x", "y", "x"), *order, states=("q", "p", "q"))
            self.assertEqual(graph, SHUTTLE)
            self.assertFalse(graph != SHUTTLE)
            self.assertEqual((graph.counters, graph.states), (("x", "y", "z"), ("p", "q")))
            self.assertEqual((graph.names, graph.transitions), (SHUTTLE.names, tuple(sorted(rows))))
            self.assertEqual(Graph.of(("z", "y", "x"), order), graph)
            self.assertEqual(Graph.of(("z", "y", "x"), order, ("q",)), graph)
            self.assertEqual(Graph.of(("z", "y", "x"), order, states=("p",)), graph)

    def test_equality(self):
        graphs = [SHUTTLE, DOUBLE, PUMP, EMPTY, Graph(("x",), states=("q",)), Graph(("y",), states=("p",)),
                  SHUTTLE.with_counter("w", {}), SHUTTLE.without("b"), SHUTTLE.renamed("states", {"p": "r"})]
        for one, two in itertools.product(range(len(graphs)), repeat=2):
            self.assertEqual(graphs[one] == graphs[two], one == two)
            self.assertEqual(graphs[one] != graphs[two], one != two)
        for value in odd_values():
            if not isinstance(value, Graph):
                self.assertFalse(SHUTTLE == value)
                self.assertTrue(SHUTTLE != value)

    def test_properties_against_a_reckoning(self):
        for seed in range(60):
            graph = random_graph(seed)
            rows = graph.transitions
            self.assertEqual(list(graph), list(rows))
            self.assertEqual(graph.names, tuple(sorted({row[0] for row in rows})))
            self.assertEqual(graph.states, tuple(sorted({row[1] for row in rows} | {row[2] for row in rows})))
            self.assertEqual(graph.counters, tuple(sorted(set(graph.counters))))
            self.assertEqual(len(graph), len(rows))
            for row in rows:
                self.assertEqual(graph[row[0]], row)
                self.assertIn(row[0], graph)
                self.assertEqual(graph.change(row[0]), {one: dict(row[3]).get(one, 0) for one in graph.counters})
                self.assertEqual(list(graph.change(row[0])), list(graph.counters))
            for state in graph.states:
                self.assertEqual(graph.leaving(state), tuple(row[0] for row in rows if row[1] == state))
                self.assertEqual(graph.entering(state), tuple(row[0] for row in rows if row[2] == state))
            self.assertEqual(str(graph), f"graph of {len(graph.states)} states, {len(graph.counters)} counters, "
                                         f"{len(rows)} transitions")

    def test_without_transitions(self):
        self.assertEqual((EMPTY.states, EMPTY.names, EMPTY.transitions, len(EMPTY)), (("p",), (), (), 0))
        self.assertFalse(EMPTY)
        self.assertTrue(SHUTTLE)
        self.assertEqual(list(EMPTY), [])
        self.assertEqual(str(EMPTY), "graph of 1 states, 1 counters, 0 transitions")
        self.assertEqual(Graph(("x", "x"), states=("p", "p")), EMPTY)
        self.assertEqual(Graph.of(("x",), (), ("p",)), EMPTY)
        for states in [(), ("p", "q"), ["p"], "p", None, (1,), ("P",)]:
            with self.assertRaises(InvalidGraph):
                Graph(("x",), states=states)
            with self.assertRaises(InvalidGraph):
                Graph.of(("x",), (), states)

    def test_greatest_sizes(self):
        ring = [(name, state, other, ()) for name, state, other in zip("stuvwxyz", "abcdefgh", "bcdefgha")]
        graph = Graph(("ca", "cb", "cc", "cd", "ce"), *ring)
        self.assertEqual((len(graph.counters), len(graph.states)), (5, 8))
        more = [("k" + one, "a", "a", (("ca", 1),)) for one in "abcdefgh"]
        self.assertEqual(len(graph.with_transitions(*more)), 16)
        with self.assertRaises(InvalidGraph):
            graph.with_transitions(*more, ("kz", "a", "a", ()))
        with self.assertRaises(InvalidGraph):
            graph.with_counter("cf", {})
        with self.assertRaises(InvalidGraph):
            graph.with_transitions(("ka", "a", "i", ()), ("kb", "i", "a", ()))
        with self.assertRaises(InvalidGraph):
            Graph((), ("a", "p", "p", ()))

    def test_states_must_lead_to_one_another(self):
        for rows in [(STEP[:3] + ((),),), (BACK, ("c", "r", "r", ())), (("a", "p", "q", ()), ("b", "q", "r", ())),
                     (("a", "p", "p", ()), ("b", "q", "q", ())),
                     (("a", "p", "q", ()), ("b", "q", "p", ()), ("c", "r", "p", ()))]:
            with self.assertRaises(InvalidGraph):
                Graph(("x",), *rows)
        with self.assertRaises(InvalidGraph):
            Graph(("x",), ("a", "p", "p", ()), states=("q",))
        for seed in range(200):
            source = random.Random(seed)
            links = [(source.choice("pqrs"), source.choice("pqrs")) for _ in range(source.randint(1, 7))]
            rows = [("abcdefg"[at], one, two, ()) for at, (one, two) in enumerate(links)]
            states = {state for link in links for state in link}
            paths = set(links)
            for middle, one, two in itertools.product("pqrs", repeat=3):
                if (one, middle) in paths and (middle, two) in paths:
                    paths.add((one, two))
            right = all((one, two) in paths for one in states for two in states if one != two)
            if right:
                self.assertEqual(Graph(("x",), *rows).states, tuple(sorted(states)))
            else:
                with self.assertRaises(InvalidGraph):
                    Graph(("x",), *rows)

    def test_things_have_different_names(self):
        loop = ("a", "p", "p", ())
        for rows in [(loop, loop), (loop, ("a", "p", "p", (("x", 1),))), (("x", "p", "p", ()),),
                     (("b", "p", "p", (("y", 1),)),)]:
            with self.assertRaises(InvalidGraph):
                Graph(("x",), *rows)
        graph = Graph(("x", "p"), loop, ("b", "p", "p", ()), ("c", "a", "p", ()), ("d", "p", "a", ()))
        self.assertEqual(graph.states, ("a", "p"))

    def test_arguments_of_the_wrong_kind(self):
        for value in odd_values():
            if value not in [("a",), ("x", "y")]:
                with self.assertRaises(InvalidGraph):
                    Graph(value, ("b", "p", "p", ()))
            if value != SHUTTLE["a"]:
                with self.assertRaises(InvalidGraph):
                    Graph(("x", "y"), value, states=("p",))
            if value != () and value != SHUTTLE.transitions:
                with self.assertRaises(InvalidGraph):
                    Graph.of(("x", "y", "z"), value, ("p",))
        for value in [["x"], "x", {"x": 1}, ("X",), (1,), ("x", None), ("x", ["y"])]:
            with self.assertRaises(InvalidGraph):
                Graph(value, ("b", "p", "p", ()))
        with self.assertRaises(InvalidGraph):
            Graph.of(("x",), [("b", "p", "p", ())])

    def test_unknown_names(self):
        for value in odd_names(*SHUTTLE.names):
            self.assertNotIn(value, SHUTTLE)
            for call in (lambda one: SHUTTLE[one], SHUTTLE.change, SHUTTLE.without,
                         lambda one: SHUTTLE.without("a", one, "no")):
                with self.assertRaises(UnknownName) as caught:
                    call(value)
                self.assertIs(caught.exception.name, value)
        for value in odd_names(*SHUTTLE.states):
            for call in (SHUTTLE.leaving, SHUTTLE.entering):
                with self.assertRaises(UnknownName) as caught:
                    call(value)
                self.assertIs(caught.exception.name, value)
        for value in odd_names(*SHUTTLE.counters):
            with self.assertRaises(UnknownName) as caught:
                SHUTTLE.without_counter(value)
            self.assertIs(caught.exception.name, value)

    def test_returned_dict_gives_no_access(self):
        change = SHUTTLE.change("a")
        change["x"] = 5
        change["new"] = 1
        self.assertEqual(SHUTTLE.change("a"), {"x": -1, "y": 1, "z": 0})

    def test_a_graph_never_changes(self):
        before = (SHUTTLE.counters, SHUTTLE.states, SHUTTLE.transitions)
        SHUTTLE.with_transitions(("c", "p", "q", ()))
        SHUTTLE.without("a")
        SHUTTLE.with_counter("w", {"a": 1})
        SHUTTLE.without_counter("x")
        SHUTTLE.renamed("states", {"p": "q", "q": "p"})
        self.assertEqual((SHUTTLE.counters, SHUTTLE.states, SHUTTLE.transitions), before)
        for name in ("counters", "states", "names", "transitions"):
            with self.assertRaises(AttributeError):
                setattr(SHUTTLE, name, ())


class TestEdits(unittest.TestCase):
    def test_with_transitions(self):
        graph = SHUTTLE.with_transitions(("c", "p", "r", ()), ("d", "r", "q", (("x", 9),)))
        self.assertEqual(graph.states, ("p", "q", "r"))
        self.assertEqual(graph.names, ("a", "b", "back", "c", "d", "go"))
        self.assertEqual(SHUTTLE.with_transitions(), SHUTTLE)
        self.assertEqual(EMPTY.with_transitions(("a", "p", "p", ())).states, ("p",))
        loop = ("c", "p", "p", ())
        for rows in [(loop, loop), (SHUTTLE["a"],), (("c", "p", "r", ()),), (("x", "p", "p", ()),),
                     (("c", "p", "p", (("w", 1),)),), (loop, None), (list(loop),), ((loop,),)]:
            with self.assertRaises(InvalidGraph):
                SHUTTLE.with_transitions(*rows)
        with self.assertRaises(InvalidGraph):
            EMPTY.with_transitions(("a", "q", "q", ()))

    def test_without(self):
        self.assertEqual(SHUTTLE.without("a", "b", "a").names, ("back", "go"))
        self.assertEqual(SHUTTLE.without(), SHUTTLE)
        self.assertEqual(EMPTY.without(), EMPTY)
        graph = SHUTTLE.without("go", "b", "back")
        self.assertEqual((graph.states, graph.counters), (("p",), ("x", "y", "z")))
        graph = SHUTTLE.without("go", "a", "back")
        self.assertEqual((graph.states, graph.names), (("q",), ("b",)))
        graph = SHUTTLE.without(*SHUTTLE.names)
        self.assertEqual((graph.states, graph.names), (("p",), ()))
        for names in [("go",), ("back",), ("go", "back")]:
            with self.assertRaises(InvalidGraph):
                SHUTTLE.without(*names)
        with self.assertRaises(UnknownName) as caught:
            SHUTTLE.without("go", "zz", "yy")
        self.assertEqual(caught.exception.name, "zz")

    def test_with_counter(self):
        graph = SHUTTLE.with_counter("w", {"go": 9, "a": -9, "b": 0})
        self.assertEqual(graph.counters, ("w", "x", "y", "z"))
        self.assertEqual(graph["go"], ("go", "p", "q", (("w", 9),)))
        self.assertEqual(graph["a"], ("a", "p", "p", (("w", -9), ("x", -1), ("y", 1))))
        self.assertEqual((graph["b"], graph["back"]), (SHUTTLE["b"], SHUTTLE["back"]))
        self.assertEqual(SHUTTLE.with_counter("w", {}).transitions, SHUTTLE.transitions)
        self.assertEqual(EMPTY.with_counter("p", {}).counters, ("p", "x"))
        for counter in ["x", "a", "go", "W", "", "abcdefghi", None, 1, ("w",), ["w"], True, SHUTTLE]:
            for changes in ({"a": 1}, {}, {"go": 1}):
                with self.assertRaises(InvalidGraph):
                    SHUTTLE.with_counter(counter, changes)
        for changes in [{"a": 10}, {"a": -10}, {"a": True}, {"a": False}, {"a": None}, {"a": "1"}, {"no": 1}, {1: 1},
                        {None: 1}, {("a",): 1}, {True: 1}, {"x": 1}, [("a", 1)], (("a", 1),), None, "a", SHUTTLE,
                        {"a": [1]}]:
            with self.assertRaises(InvalidGraph):
                SHUTTLE.with_counter("w", changes)

    def test_without_counter(self):
        graph = SHUTTLE.without_counter("x")
        self.assertEqual((graph.counters, graph.states), (("y", "z"), ("p", "q")))
        self.assertEqual((graph["a"], graph["back"]), (("a", "p", "p", (("y", 1),)), SHUTTLE["back"]))
        with self.assertRaises(InvalidGraph):
            EMPTY.without_counter("x")
        self.assertEqual(EMPTY.with_counter("w", {}).without_counter("x").counters, ("w",))
        for seed in range(20):
            graph = random_graph(seed)
            if len(graph.counters) < 5:
                more = graph.with_counter("q", {name: 3 for name in graph.names})
                self.assertEqual(more.without_counter("q"), graph)

    def test_renamed(self):
        graph = SHUTTLE.renamed("counters", {"x": "y", "y": "x"})
        self.assertEqual(graph["a"], ("a", "p", "p", (("x", 1), ("y", -1))))
        self.assertEqual(graph.renamed("counters", {"x": "y", "y": "x"}), SHUTTLE)
        graph = SHUTTLE.renamed("states", {"p": "q", "q": "p"})
        self.assertEqual(graph["go"], ("go", "q", "p", ()))
        graph = SHUTTLE.renamed("transitions", {"a": "b", "b": "c", "go": "a"})
        self.assertEqual(graph.names, ("a", "b", "back", "c"))
        self.assertEqual(graph["b"], ("b", "p", "p", (("x", -1), ("y", 1))))
        for kind in ("counters", "states", "transitions"):
            self.assertEqual(SHUTTLE.renamed(kind, {}), SHUTTLE)
        self.assertEqual(SHUTTLE.renamed("counters", {"x": "x"}), SHUTTLE)
        self.assertEqual(SHUTTLE.renamed("states", {"p": "x"}).states, ("q", "x"))
        self.assertEqual(EMPTY.renamed("states", {"p": "r"}).states, ("r",))

    def test_renamed_to_what_is_no_graph(self):
        for kind, names in [("counters", {"x": "y"}), ("states", {"p": "q"}), ("transitions", {"a": "b"}),
                            ("counters", {"x": "w", "y": "w"}), ("states", {"p": "r", "q": "r"}),
                            ("counters", {"x": "a"}), ("transitions", {"a": "x"}), ("states", {"p": "P"}),
                            ("counters", {"x": 1}), ("counters", {"x": None}), ("states", {"p": ["r"]}),
                            ("states", {"p": SHUTTLE}), ("transitions", {"a": ""}), ("counters", {"x": "abcdefghi"})]:
            with self.assertRaises(InvalidGraph):
                SHUTTLE.renamed(kind, names)

    def test_renamed_checks_in_order(self):
        for kind in odd_names() + ["counter", "names", "Counters", ("counters",)]:
            for names in ({}, None, {"zz": "a"}):
                with self.assertRaises(InvalidOperation):
                    SHUTTLE.renamed(kind, names)
        for names in [value for value in odd_values() if not isinstance(value, dict)] + \
                [{1: "a"}, {"zz": "a", None: "b"}, {("x",): "a"}, {True: "x"}]:
            with self.assertRaises(InvalidOperation):
                SHUTTLE.renamed("counters", names)
        for kind, names, least in [("counters", {"x": "y", "p": "r", "a": "b"}, "a"), ("states", {"z": 1, "x": 2}, "x"),
                                   ("transitions", {"b": 1, "Z": 2, "z": 3}, "Z"), ("states", {"": "p"}, "")]:
            with self.assertRaises(UnknownName) as caught:
                SHUTTLE.renamed(kind, names)
            self.assertEqual(caught.exception.name, least)

    def test_arguments_stay(self):
        names, changes = {"x": "y", "y": "x"}, {"a": 0, "b": 1}
        SHUTTLE.renamed("counters", names)
        SHUTTLE.with_counter("w", changes)
        self.assertEqual((names, changes), ({"x": "y", "y": "x"}, {"a": 0, "b": 1}))


if __name__ == "__main__":
    unittest.main()

"""Points 16.1 to 16.3, stage "operations", and 0.20: what no growth becomes less by."""

import random
import unittest

from loopgrowth.change.operations import allows, copied, counted, halved, joined, scaled
from loopgrowth.errors import InvalidGraph, InvalidNumber, InvalidOperation, UnknownName
from loopgrowth.graphs.graphs import Graph
from loopgrowth.levels.growths import compared, growth, growths
from samples import (CUBE, DOUBLE, EMPTY, PUMP, SHUTTLE, SQUARE, graph_of, loop_graph, moving_graph, odd_names,
                     odd_values, random_graph)

RING = Graph(("z",), ("up", "p", "p", (("z", 1),)))


def graphs():
    return [SHUTTLE, DOUBLE, PUMP, SQUARE, CUBE] + [loop_graph(seed, most=9) for seed in range(25)] + \
        [moving_graph(seed) for seed in range(15)] + [random_graph(seed, greatest=2) for seed in range(8)]


def changed(graph, *, counters=None, rows=None, states=None):
    """A graph that is laid anew."""
    return Graph(graph.counters if counters is None else counters, *(graph.transitions if rows is None else rows),
                 states=graph.states if states is None else states)


def fits(graph, counters=0, states=0, names=0):
    return len(graph.counters) + counters <= 5 and len(graph.states) + states <= 8 and len(graph) + names <= 16


class TestOperations(unittest.TestCase):
    def test_examples(self):
        self.assertEqual([growth(counted(SHUTTLE, "a", "m"), "m"), growth(halved(SHUTTLE, "go", "on", "r"), "on"),
                          growth(scaled(SHUTTLE, "x", 9), "a")], [("power", 2), ("power", 1), ("power", 2)])
        self.assertEqual([allows(DOUBLE, SHUTTLE), allows(SHUTTLE, DOUBLE), growth(joined(SHUTTLE, RING, "p"), "a")],
                         [True, False, ("free", 0)])

    def test_scaled(self):
        for graph in graphs():
            for counter in graph.counters:
                greatest = max([abs(amount) for _, _, _, change in graph for other, amount in change
                                if other == counter], default=0)
                for factor in range(1, 10):
                    before = str(graph), graph.transitions
                    if greatest * factor > 9:
                        with self.assertRaises(InvalidGraph):
                            scaled(graph, counter, factor)
                        continue
                    told = scaled(graph, counter, factor)
                    rows = [row[:3] + (tuple((one, amount * factor if one == counter else amount)
                                             for one, amount in row[3]),) for row in graph]
                    self.assertEqual(told, changed(graph, rows=rows))
                    self.assertEqual((str(graph), graph.transitions), before)
                    if factor in (2, 7):
                        self.assertEqual(growths(told), growths(graph))

    def test_counted(self):
        for graph in graphs():
            for name in graph.names:
                if not fits(graph, counters=1):
                    with self.assertRaises(InvalidGraph):
                        counted(graph, name, "m")
                    continue
                told = counted(graph, name, "m")
                rows = [row if row[0] != name else row[:3] + (tuple(sorted(row[3] + (("m", 1),))),) for row in graph]
                self.assertEqual(told, changed(graph, counters=graph.counters + ("m",), rows=rows))
                self.assertNotIn("m", graph.counters)
                before = growths(graph)
                self.assertEqual(growths(told), dict(sorted({**before, "m": before[name]}.items())))

    def test_copied(self):
        for graph in graphs():
            for name in graph.names[:4]:
                if not fits(graph, names=1):
                    with self.assertRaises(InvalidGraph):
                        copied(graph, name, "m")
                    continue
                told = copied(graph, name, "m")
                self.assertEqual(told, changed(graph, rows=graph.transitions + (("m",) + graph[name][1:],)))
                self.assertNotIn("m", graph)
                before = growths(graph)
                self.assertEqual(growths(told), dict(sorted({**before, "m": before[name]}.items())))

    def test_halved(self):
        for graph in graphs():
            for name in graph.names:
                if not fits(graph, states=1, names=1):
                    with self.assertRaises(InvalidGraph):
                        halved(graph, name, "mm", "n")
                    continue
                told = halved(graph, name, "mm", "n")
                _, source, target, change = graph[name]
                rows = [row for row in graph if row[0] != name] + [(name, source, "n", change), ("mm", "n", target, ())]
                self.assertEqual(told, changed(graph, rows=rows))
                self.assertFalse("mm" in graph or "n" in graph.states)
                before = growths(graph)
                self.assertEqual(growths(told), dict(sorted({**before, "mm": before[name]}.items())))

    def test_results_that_are_no_graphs(self):
        for value in odd_names("m") + ["x", "y", "z", "a", "b", "go", "back", "abcdefghi", "M"]:
            if value not in ("zz", "p"):
                with self.assertRaises(InvalidGraph):
                    counted(SHUTTLE, "a", value)
                with self.assertRaises(InvalidGraph):
                    copied(SHUTTLE, "a", value)
                with self.assertRaises(InvalidGraph):
                    halved(SHUTTLE, "a", value, "r")
        for value in odd_names("r", "x", "a", "zz") + ["p", "q", "abcdefghi", "R"]:
            with self.assertRaises(InvalidGraph):
                halved(SHUTTLE, "a", "m", value)
        self.assertEqual(halved(SHUTTLE, "a", "m", "x").states, ("p", "q", "x"))
        full = graph_of("v w x y z", *[f"t{letter} p p: x-1" for letter in "abcdefghijklmnop"])
        for call in (lambda: counted(full, "ta", "m"), lambda: copied(full, "ta", "m"),
                     lambda: halved(full, "ta", "m", "r"), lambda: joined(full, RING, "p")):
            with self.assertRaises(InvalidGraph):
                call()
        ring = graph_of("x", "ta a b:", "tb b c:", "tc c d:", "td d e:", "te e f:", "tf f g:", "tg g h:", "th h a:")
        with self.assertRaises(InvalidGraph):
            halved(ring, "ta", "m", "i")
        # A state as it is called in the graph already, and a name that is a counter.
        for call in (lambda: halved(SHUTTLE, "a", "m", "q"), lambda: halved(SHUTTLE, "a", "a", "r"),
                     lambda: copied(SHUTTLE, "a", "a"), lambda: copied(SHUTTLE, "a", "x")):
            with self.assertRaises(InvalidGraph):
                call()

    def test_joined(self):
        graph = joined(SHUTTLE, RING, "p")
        self.assertEqual(graph, Graph(("x", "y", "z"), *SHUTTLE.transitions, *RING.transitions))
        self.assertEqual(joined(RING, SHUTTLE, "p"), graph)
        other = PUMP.renamed("transitions", {"a": "c", "b": "d", "go": "in", "back": "out"})
        other = other.renamed("states", {"s": "q"})
        both = joined(SHUTTLE, other, "q")
        self.assertEqual((both.counters, both.states, both.names),
                         (("u", "x", "y", "z"), ("p", "q", "t"), ("a", "b", "back", "c", "d", "go", "in", "out")))
        self.assertEqual(both, Graph(("u", "x", "y", "z"), *SHUTTLE.transitions, *other.transitions))
        self.assertEqual(joined(EMPTY, Graph(("y",), states=("p",)), "p"), Graph(("x", "y"), states=("p",)))
        self.assertEqual(joined(EMPTY, EMPTY, "p"), EMPTY)
        self.assertEqual(joined(EMPTY, SHUTTLE, "p"), SHUTTLE)

    def test_the_graphs_stay_as_they_were(self):
        one, other = Graph.of(SHUTTLE.counters, SHUTTLE.transitions), Graph.of(RING.counters, RING.transitions)
        growths(one)
        for call in (lambda: scaled(one, "x", 3), lambda: counted(one, "a", "m"), lambda: copied(one, "a", "m"),
                     lambda: halved(one, "a", "m", "r"), lambda: joined(one, other, "p"),
                     lambda: joined(other, one, "p"), lambda: allows(one, other)):
            call()
            self.assertEqual((one, other, growths(one), growths(other)),
                             (SHUTTLE, RING, growths(SHUTTLE), growths(RING)))

    def test_growths_of_joined_graphs(self):
        joins = 0
        for first in range(40):
            one = loop_graph(first, most=6)
            other = loop_graph(first + 100, most=6)
            other = other.renamed("transitions", {name: "u" + name for name in other.names})
            other = other.renamed("states", {state: "a" if state == "a" else "n" + state for state in other.states})
            if len(one.states) + len(other.states) > 9:
                continue
            for apart in (False, True):
                second = other
                if apart:
                    if len(one.counters) + len(other.counters) > 5:
                        continue
                    second = other.renamed("counters", {counter: "k" + counter for counter in other.counters})
                joins += 1
                told = joined(one, second, "a")
                self.assertEqual(told, joined(second, one, "a"))
                every = growths(told)
                for graph in (one, second):
                    for thing, less in growths(graph).items():
                        self.assertIn(compared(less, every[thing]), ("less", "equal"))
        self.assertGreater(joins, 25)

    def test_errors_of_joined(self):
        other = PUMP.renamed("states", {"s": "p"})
        for value in odd_values():
            if not isinstance(value, Graph):
                for call in (lambda: joined(value, None, 7), lambda: joined(SHUTTLE, value, 7),
                             lambda: allows(value, None), lambda: allows(value, SHUTTLE),
                             lambda: allows(SHUTTLE, value)):
                    with self.assertRaises(InvalidGraph):
                        call()
        for value in odd_names("p"):
            with self.assertRaises(UnknownName) as caught:
                joined(SHUTTLE, RING, value)
            self.assertIs(caught.exception.name, value)
        for one, two, state in ((SHUTTLE, RING, "q"), (RING, SHUTTLE, "q"), (SHUTTLE, PUMP, "p"), (SHUTTLE, PUMP, "s")):
            with self.assertRaises(UnknownName) as caught:
                joined(one, two, state)
            self.assertEqual(caught.exception.name, state)
        for one, two in ((SHUTTLE, SHUTTLE), (SHUTTLE, DOUBLE), (SHUTTLE, other), (RING, RING)):
            with self.assertRaises(InvalidOperation):
                joined(one, two, "p")
        two = graph_of("x", "m p q:", "n q p:")
        with self.assertRaises(InvalidOperation):
            joined(SHUTTLE, two, "p")
        # A transition that is called like a counter of the other graph: the result is none.
        for one, two in ((SHUTTLE, graph_of("m", "x p p:")), (graph_of("m", "x p p:"), SHUTTLE),
                         (graph_of("u v w", "c p p:"), SHUTTLE)):
            with self.assertRaises(InvalidGraph):
                joined(one, two, "p")

    def test_allows(self):
        for graph in graphs():
            self.assertIs(allows(graph, graph), True)
            self.assertIs(allows(graph, changed(graph)), True)
            for name in graph.names:
                rest = [row for row in graph if row[0] != name]
                _, source, target, change = graph[name]
                for counter in graph.counters:
                    amount = dict(change).get(counter, 0)
                    for more in (-1, 1):
                        if abs(amount + more) <= 9:
                            told = tuple(sorted({**dict(change), counter: amount + more}.items()))
                            row = (name, source, target, tuple(pair for pair in told if pair[1]))
                            other = changed(graph, rows=rest + [row])
                            self.assertIs(allows(other, graph), more == 1)
                            self.assertIs(allows(graph, other), more == -1)
                if rest:
                    try:
                        less = graph.without(name)
                    except InvalidGraph:
                        continue
                    self.assertIs(allows(graph, less), True)
                    self.assertIs(allows(less, graph), False)

    def test_graphs_that_differ_in_one_part(self):
        for graph in (SHUTTLE.renamed("counters", {"x": "u"}), SHUTTLE.with_counter("u", {}),
                      SHUTTLE.without_counter("z"), SHUTTLE.renamed("states", {"p": "s"}),
                      SHUTTLE.renamed("transitions", {"a": "c"})):
            self.assertIs(allows(graph, SHUTTLE), False)
            self.assertIs(allows(SHUTTLE, graph), False)
        rows = [row for row in SHUTTLE if row[0] != "a"]
        other = Graph(SHUTTLE.counters, *rows, ("a", "p", "q", SHUTTLE["a"][3]))
        self.assertFalse(allows(other, SHUTTLE) or allows(SHUTTLE, other))
        # More states and transitions are allowed, fewer are not.
        more = SHUTTLE.with_transitions(("in", "p", "r", ()), ("out", "r", "p", ()))
        self.assertEqual([allows(more, SHUTTLE), allows(SHUTTLE, more)], [True, False])
        self.assertEqual([allows(SHUTTLE, SHUTTLE.without("a")), allows(SHUTTLE.without("a"), SHUTTLE)], [True, False])
        still = Graph(SHUTTLE.counters, states=("p",))
        self.assertEqual([allows(SHUTTLE, still), allows(still, SHUTTLE),
                          allows(SHUTTLE, Graph(SHUTTLE.counters, states=("r",)))], [True, False, False])

    def test_allowing_goes_on_from_graph_to_graph_and_raises_growths(self):
        source = random.Random(161)
        for graph in graphs()[:30]:
            row = [graph]
            for _ in range(3):
                name = source.choice(graph.names)
                _, begin, end, change = row[-1][name]
                told = {**dict(change), source.choice(graph.counters): source.randint(-9, 9)}
                told = {counter: max(told[counter], dict(change).get(counter, 0)) for counter in told}
                change = tuple(sorted((counter, amount) for counter, amount in told.items() if amount))
                rows = [one for one in row[-1] if one[0] != name] + [(name, begin, end, change)]
                if fits(row[-1], names=1):
                    rows.append(("n" + "abc"[len(row) - 1], source.choice(graph.states), source.choice(graph.states),
                                 ((source.choice(graph.counters), source.randint(1, 3)),)))
                row.append(changed(graph, rows=rows))
            told = [growths(one) for one in row]
            for less in range(4):
                for more in range(less, 4):
                    self.assertIs(allows(row[more], row[less]), True)
                    for thing in told[less]:
                        self.assertIn(compared(told[less][thing], told[more][thing]), ("less", "equal"))

    def test_the_first_error_that_applies(self):
        for value in odd_values():
            if not isinstance(value, Graph):
                for call in (lambda: scaled(value, 7, 0), lambda: counted(value, 7, 7), lambda: copied(value, 7, 7),
                             lambda: halved(value, 7, 7, 7)):
                    with self.assertRaises(InvalidGraph):
                        call()
        for value in odd_names("x", "y", "z"):
            with self.assertRaises(UnknownName) as caught:
                scaled(SHUTTLE, value, 0)
            self.assertIs(caught.exception.name, value)
        for value in odd_names(*SHUTTLE.names):
            for call in (lambda: counted(SHUTTLE, value, 7), lambda: copied(SHUTTLE, value, 7),
                         lambda: halved(SHUTTLE, value, 7, 7), lambda: halved(SHUTTLE, value, "m", "p")):
                with self.assertRaises(UnknownName) as caught:
                    call()
                self.assertIs(caught.exception.name, value)
        for value in [one for one in odd_values() if one not in (1, 7) or one is True] + [-1, 0, 10, 11, "1", (1,)]:
            with self.assertRaises(InvalidNumber) as caught:
                scaled(SHUTTLE, "x", value)
            self.assertIs(caught.exception.value, value)


if __name__ == "__main__":
    unittest.main()

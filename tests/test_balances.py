"""Points 0.15 to 0.17 and stage "balances"."""

import random
import unittest

from loopgrowth.errors import InvalidBalance, InvalidGraph, InvalidOperation, UnknownName
from loopgrowth.graphs.graphs import Graph
from loopgrowth.graphs.parts import components, is_returning
from loopgrowth.levels.balances import Balance
from samples import DOUBLE, EMPTY, PUMP, SHUTTLE, odd_names, odd_values, random_graph
from sums import effect_of, fall_of, is_right, lies

ALL = (("p", "q"),)
FIRST = Balance(SHUTTLE, SHUTTLE.names, {"x": ALL, "y": ALL, "z": ALL})
MEETING = ({("x", ("p", "q")): 1, ("y", ("p", "q")): 1, ("z", ("p", "q")): 2}, {"p": 1, "q": 0},
           {"a": 1, "b": 1, "back": 0, "go": 0})


def random_balance(source, graph):
    """The graph, returning transitions and parts that make a balance."""
    names = [name for name in graph.names if source.random() < 0.8]
    while not is_returning(graph, tuple(names)):
        inside = components(graph, tuple(names))
        names = [name for name in names if any(lies(graph, name, part) for part in inside)]
    parts = {}
    for counter in graph.counters:
        choice = source.random()
        together = list(components(graph, tuple(names)))
        if choice < 0.3:
            parts[counter] = (graph.states,)
        elif choice < 0.6:
            parts[counter] = tuple(together)
        elif choice < 0.8:
            source.shuffle(together)
            blocks = [list(part) for part in together[:source.randint(0, len(together))]]
            rest = [state for state in graph.states if not any(state in part for part in together)]
            for state in rest:
                if blocks and source.random() < 0.5:
                    source.choice(blocks).append(state)
                elif source.random() < 0.3:
                    blocks.append([state])
            parts[counter] = tuple(tuple(sorted(block)) for block in blocks)
        elif choice < 0.9:
            parts[counter] = ()
    return tuple(names), parts


def many_balances():
    source = random.Random(41)
    for seed in range(120):
        graph = random_graph(seed, source.choice((1, 2, 9)))
        names, parts = random_balance(source, graph)
        yield Balance(graph, names, parts), graph, names, parts


class TestBalances(unittest.TestCase):
    def test_examples(self):
        self.assertEqual([FIRST.is_meeting(MEETING), FIRST.fall(MEETING, "back"), FIRST.falling(), FIRST.gained()],
                         [True, 1, ("back", "go"), ()])
        self.assertEqual(str(FIRST), "balance of 4 transitions, 3 rows")

    def test_properties(self):
        balance = Balance(SHUTTLE, ("go", "a", "back", "a"), {"z": (), "x": ALL})
        self.assertEqual((balance.graph, balance.names), (SHUTTLE, ("a", "back", "go")))
        self.assertEqual((list(balance.parts.items()), balance.rows), ([("x", ALL), ("z", ())], (("x", ("p", "q")),)))
        self.assertEqual((len(balance), str(balance)), (1, "balance of 3 transitions, 1 rows"))
        balance = Balance(SHUTTLE, ("b", "a"), {"z": (("q",), ("p",)), "y": (("q",),)})
        self.assertEqual(list(balance.parts.items()), [("y", (("q",),)), ("z", (("p",), ("q",)))])
        self.assertEqual(balance.rows, (("y", ("q",)), ("z", ("p",)), ("z", ("q",))))
        for balance, graph, names, parts in many_balances():
            self.assertEqual(balance.names, tuple(sorted(names)))
            self.assertEqual(balance.parts, {counter: tuple(sorted(told)) for counter, told in parts.items()})
            self.assertEqual(list(balance.parts), sorted(parts))
            self.assertEqual(balance.rows, tuple(sorted((counter, part) for counter in parts
                                                        for part in parts[counter])))
            self.assertEqual(len(balance), len(balance.rows))

    def test_without_rows_or_transitions(self):
        balance = Balance(SHUTTLE, (), {})
        self.assertEqual(balance.meeting(), ({}, {"p": 0, "q": 0}, {}))
        self.assertEqual((balance.names, balance.parts, balance.rows, len(balance)), ((), {}, (), 0))
        balance = Balance(EMPTY, (), {"x": (("p",),)})
        weights, offsets, amounts = balance.meeting()
        self.assertGreater(weights["x", ("p",)], 0)
        self.assertEqual((list(offsets), amounts, balance.weighted()), (["p"], {}, (("x", ("p",)),)))
        balance = Balance(SHUTTLE, SHUTTLE.names, {})
        self.assertEqual((balance.carried(), balance.falling()), (SHUTTLE.names, ()))

    def test_equality(self):
        balances = [FIRST, Balance(SHUTTLE, SHUTTLE.names, {"x": ALL, "y": ALL}),
                    Balance(SHUTTLE, SHUTTLE.names, {"x": ALL, "y": ALL, "z": ()}),
                    Balance(DOUBLE, SHUTTLE.names, {"x": ALL, "y": ALL, "z": ALL}),
                    Balance(SHUTTLE, ("a", "b"), {"x": ALL, "y": ALL, "z": ALL}),
                    Balance(SHUTTLE, ("a", "b"), {"x": (("p",), ("q",)), "y": ALL, "z": ALL})]
        for one, balance in enumerate(balances):
            for two, other in enumerate(balances):
                self.assertEqual(balance == other, one == two)
                self.assertEqual(balance != other, one != two)
            for value in odd_values():
                self.assertFalse(balance == value)
        same = Balance(Graph(("z", "x", "y"), *SHUTTLE.transitions), ("go", "b", "back", "a", "b"),
                       {"z": ALL, "x": ALL, "y": ALL})
        self.assertEqual(same, FIRST)

    def test_errors_in_order(self):
        for value in odd_values():
            if not isinstance(value, Graph):
                with self.assertRaises(InvalidGraph):
                    Balance(value, None, None)
            if not isinstance(value, tuple):
                with self.assertRaises(InvalidOperation):
                    Balance(SHUTTLE, value, None)
            if not isinstance(value, dict) or any(not isinstance(key, str) for key in value):
                with self.assertRaises(InvalidBalance):
                    Balance(SHUTTLE, ("go",), value)
        for value in odd_names(*SHUTTLE.names):
            with self.assertRaises(UnknownName) as caught:
                Balance(SHUTTLE, ("go", value, "zz"), None)
            self.assertIs(caught.exception.name, value)
        for parts, least in [({"w": 1, "p": None, "x": ALL}, "p"), ({"zz": (), "a": ()}, "a"), ({"": None}, "")]:
            with self.assertRaises(UnknownName) as caught:
                Balance(SHUTTLE, ("go",), parts)
            self.assertEqual(caught.exception.name, least)
        for parts in [{1: ALL}, {"x": ALL, None: ALL}, {("x",): ALL}, {True: (), "w": ()}]:
            with self.assertRaises(InvalidBalance):
                Balance(SHUTTLE, SHUTTLE.names, parts)

    def test_what_is_no_balance(self):
        for names in [("go",), ("back", "a"), ("a", "b", "go")]:
            with self.assertRaises(InvalidBalance):
                Balance(SHUTTLE, names, {})
        for told in [(("p",), ("p",)), (("p", "q"), ("q",)), (("q", "p"),), (("p", "p"),), ((),), (("r",),), ("p",),
                     "p", [("p",)], (["p"],), None, 1, {"p": 1}, (("p", "r"),), ((1,),), (None,), (("p",), ()),
                     (("p",), 1)]:
            with self.assertRaises(InvalidBalance):
                Balance(SHUTTLE, ("a", "b"), {"x": told})
        for value in odd_values():
            if value != ():
                with self.assertRaises(InvalidBalance):
                    Balance(SHUTTLE, ("a", "b"), {"x": value})
        for told in [(("p",),), (("q",),), (("p",), ("q",))]:
            Balance(SHUTTLE, ("a", "b"), {"x": told})
            with self.assertRaises(InvalidBalance):
                Balance(SHUTTLE, ("go", "back"), {"x": told})
            with self.assertRaises(InvalidBalance):
                Balance(SHUTTLE, SHUTTLE.names, {"y": (), "x": told})

    def test_parts_with_further_states(self):
        graph = Graph(("x",), ("a", "p", "p", (("x", 1),)), ("b", "q", "q", ()), ("c", "p", "q", ()),
                      ("d", "q", "r", ()), ("e", "r", "p", ()))
        balance = Balance(graph, ("a", "b"), {"x": (("q", "r"), ("p",))})
        self.assertEqual(balance.rows, (("x", ("p",)), ("x", ("q", "r"))))
        self.assertEqual((balance.gained(), balance.weighted()), ((("x", ("p",)),), (("x", ("q", "r")),)))
        balance = Balance(graph, ("a",), {"x": (("r",), ("q",))})
        self.assertEqual((balance.gained(), balance.weighted()), ((), (("x", ("q",)), ("x", ("r",)))))
        self.assertEqual(balance.carried(), ("a",))
        with self.assertRaises(InvalidBalance):
            Balance(graph, ("c", "d", "e"), {"x": (("p", "q"), ("r",))})

    def test_a_balance_never_changes(self):
        parts = {"x": ALL, "y": ALL}
        balance = Balance(SHUTTLE, SHUTTLE.names, parts)
        parts["z"] = ALL
        balance.parts["w"] = ()
        weights, offsets, amounts = balance.meeting()
        weights.clear()
        offsets["p"] = amounts["a"] = None
        self.assertEqual(balance, Balance(SHUTTLE, SHUTTLE.names, {"x": ALL, "y": ALL}))
        self.assertTrue(balance.is_meeting(balance.meeting()))
        for name in ("graph", "names", "parts", "rows"):
            with self.assertRaises(AttributeError):
                setattr(balance, name, ())


class TestMeetings(unittest.TestCase):
    def test_many_meetings(self):
        for balance, graph, names, _ in many_balances():
            rows, names = balance.rows, balance.names
            meeting = balance.meeting()
            weights, offsets, amounts = meeting
            self.assertEqual((tuple(weights), tuple(offsets), tuple(amounts)), (rows, graph.states, names))
            self.assertTrue(is_right(graph, names, rows, meeting))
            self.assertIs(balance.is_meeting(meeting), True)
            self.assertEqual(balance.meeting(), meeting)
            self.assertTrue(all(abs(number) < 10 ** 900 for told in meeting for number in told.values()))
            self.assertEqual(balance.carried(), tuple(name for name in names if amounts[name] > 0))
            self.assertEqual(balance.falling(), tuple(name for name in names if amounts[name] == 0))
            self.assertEqual(balance.weighted(), tuple(row for row in rows if weights[row] > 0))
            self.assertEqual(balance.gained(), tuple(row for row in rows if weights[row] == 0))
            for name in names:
                self.assertEqual(balance.fall(meeting, name), fall_of(graph, rows, meeting, name))
            for row in rows:
                self.assertEqual(balance.effect_on(meeting, row), effect_of(graph, names, meeting, row))
            double = tuple({key: 2 * number for key, number in told.items()} for told in meeting)
            self.assertEqual(balance.added(meeting, meeting), double)
            moved = (weights, {state: offsets[state] - 10 ** 30 for state in offsets}, amounts)
            self.assertIs(balance.is_meeting(moved), True)
            great = tuple({key: 10 ** 90 * number for key, number in told.items()} for told in moved)
            self.assertIs(balance.is_meeting(great), True)
            self.assertTrue(is_right(graph, names, rows, balance.added(great, meeting)))

    def test_one_number_otherwise(self):
        for balance, graph, names, _ in many_balances():
            meeting = balance.meeting()
            for at in range(3):
                for key, number in meeting[at].items():
                    for other in (number + 1, number - 1, 0, 1, -number):
                        told = list(meeting)
                        told[at] = {**meeting[at], key: other}
                        right = is_right(graph, balance.names, balance.rows, told)
                        self.assertIs(balance.is_meeting(tuple(told)), right)

    def test_values_of_the_wrong_form(self):
        bad = [list(MEETING), MEETING[:2], MEETING + ({},), (MEETING[1], MEETING[0], MEETING[2]),
               tuple(list(told.items()) for told in MEETING), ({}, {}, {})]
        for at in range(3):
            for key, number in MEETING[at].items():
                less = {other: told for other, told in MEETING[at].items() if other != key}
                wrong = [less, {**less, "zz": number}, {**less, None: number}, {**MEETING[at], "zz": 0}]
                wrong += [{**less, key: value} for value in (None, "1", (1,), True, False, [], {}, SHUTTLE)]
                bad += [MEETING[:at] + (one,) + MEETING[at + 1:] for one in wrong + [None, (), [], "x"]]
        for value in bad + odd_values():
            self.assertIs(FIRST.is_meeting(value), False, value)
            for call in (lambda one: FIRST.fall(one, None), lambda one: FIRST.effect_on(one, None),
                         lambda one: FIRST.added(one, None), lambda one: FIRST.added(one, MEETING),
                         lambda one: FIRST.added(MEETING, one)):
                with self.assertRaises(InvalidBalance):
                    call(value)

    def test_unknown_names(self):
        balance = Balance(SHUTTLE, ("a", "b"), {"x": (("p",), ("q",))})
        meeting = balance.meeting()
        for value in odd_names("a", "b") + ["go", "back"]:
            with self.assertRaises(UnknownName) as caught:
                balance.fall(meeting, value)
            self.assertIs(caught.exception.name, value)
        for value in odd_values() + [("x", ("p", "q")), ("y", ("p",)), ["x", ("p",)], ("x", ["p"]), ("x", "p"), "x",
                                     ("x", ("p",), ())]:
            with self.assertRaises(UnknownName) as caught:
                balance.effect_on(meeting, value)
            self.assertIs(caught.exception.name, value)
        self.assertEqual(balance.effect_on(meeting, ("x", ("p",))), 0)

    def test_meetings_that_the_program_did_not_make(self):
        one = ({("x", ("p", "q")): 3, ("y", ("p", "q")): 3, ("z", ("p", "q")): 7}, {"p": 103, "q": 100},
               {"b": 9, "go": 0, "a": 9, "back": 0})
        self.assertIs(FIRST.is_meeting(one), True)
        self.assertEqual((FIRST.fall(one, "go"), FIRST.fall(one, "back"), FIRST.fall(one, "a")), (3, 4, 0))
        self.assertEqual(FIRST.effect_on(one, ("x", ("p", "q"))), 0)
        both = FIRST.added(one, MEETING)
        self.assertEqual(both, ({("x", ("p", "q")): 4, ("y", ("p", "q")): 4, ("z", ("p", "q")): 9},
                                {"p": 104, "q": 100}, {"a": 10, "b": 10, "back": 0, "go": 0}))
        self.assertEqual([list(told) for told in both], [list(told) for told in MEETING])
        self.assertEqual(both, FIRST.added(MEETING, one))

    def test_pump(self):
        parts = {"u": (("s", "t"),), "z": (("s", "t"),)}
        balance = Balance(PUMP, PUMP.names, parts)
        self.assertEqual(balance.falling(), ("back", "go"))
        self.assertEqual(balance.carried(), ("a", "b"))
        self.assertEqual(balance.weighted(), (("z", ("s", "t")),))
        self.assertEqual(balance.gained(), (("u", ("s", "t")),))

    def test_greatest_balance(self):
        states = "abcdefgh"
        source = random.Random(51)
        for _ in range(8):
            rows = [("l" + state, state, state, tuple((counter, source.choice((-9, -8, -7, 7, 8, 9)))
                                                      for counter in "mnopq")) for state in states]
            rows += [("r" + states[at], states[at - 1], states[at], ()) for at in range(8)]
            graph = Graph(tuple("mnopq"), *rows)
            names = tuple("l" + state for state in states)
            balance = Balance(graph, names, {counter: tuple((state,) for state in states) for counter in "mnopq"})
            self.assertEqual(len(balance), 40)
            self.assertTrue(is_right(graph, balance.names, balance.rows, balance.meeting()))
            whole = Balance(graph, graph.names, {counter: (tuple(states),) for counter in "mnopq"})
            self.assertTrue(is_right(graph, whole.names, whole.rows, whole.meeting()))
            self.assertTrue(all(abs(number) < 10 ** 900 for told in whole.meeting() for number in told.values()))


if __name__ == "__main__":
    unittest.main()

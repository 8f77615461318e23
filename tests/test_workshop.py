"""Points 18.1 and 18.2, stage "a workshop"."""

import random
import unittest

from loopgrowth.errors import (InvalidEdit, InvalidGraph, InvalidNumber, InvalidOperation, NothingToUndo, TooMany,
                               UnknownName)
from loopgrowth.graphs.graphs import Graph
from loopgrowth.levels.growths import growths
from loopgrowth.live.workshop import MAX_GRAPHS, Workshop
from samples import DOUBLE, EMPTY, PUMP, SHUTTLE, SQUARE, graph_of, loop_graph, odd_names, odd_numbers, odd_values

LOOP = graph_of("x", "a p p: x-1")
UP = ("b", "p", "p", (("x", 1),))
RISE = ("up", "p", "p", (("x", 1), ("y", 1)))


def states_of(shop):
    """All that can be seen of a workshop, but for what it can redo."""
    return (shop.names, shop.log, shop.watches, list(shop.news()), [shop[name].transitions for name in shop], str(shop),
            len(shop))


class Model:
    """What a workshop should be, kept by the test: lists of dicts of graphs."""

    def __init__(self):
        self.steps, self.undone, self.graphs = [], [], [{}]
        self.before, self.watches = {}, []

    def apply(self, step):
        now = dict(self.graphs[-1])
        for edit in step:
            if edit[0] == "drop":
                del now[edit[1]]
            elif edit[0] in ("put", "set"):
                now[edit[1]] = edit[2]
            elif edit[0] == "add":
                now[edit[1]] = Graph(now[edit[1]].counters, *now[edit[1]], edit[2], states=now[edit[1]].states)
            else:
                now[edit[1]] = now[edit[1]].without(edit[2])
        self.before = self.graphs[-1]
        self.steps.append(step)
        self.graphs.append(now)
        self.undone = []

    def back(self, many):
        self.before = self.graphs[-1]
        for _ in range(many):
            self.undone.append((self.steps.pop(), self.graphs.pop()))

    def again(self, many):
        self.before = self.graphs[-1]
        for _ in range(many):
            step, graphs = self.undone.pop()
            self.steps.append(step)
            self.graphs.append(graphs)

    def news(self):
        told = []
        for name, thing in sorted(self.watches):
            old, new = [growths(graphs[name]).get(thing) if name in graphs else None
                        for graphs in (self.before, self.graphs[-1])]
            if old != new:
                told.append(((name, thing), old, new))
        return told


class TestWorkshop(unittest.TestCase):
    def check(self, shop, model):
        now = model.graphs[-1]
        self.assertEqual((shop.names, tuple(shop), len(shop)), (tuple(sorted(now)),) * 2 + (len(now),))
        self.assertEqual((shop.log, shop.watches), (tuple(model.steps), tuple(sorted(model.watches))))
        self.assertEqual(list(shop.news()), model.news())
        self.assertEqual(str(shop), f"workshop of {len(now)} graphs, {len(model.steps)} steps")
        for name in now:
            self.assertEqual(shop[name], now[name])
            self.assertEqual({thing: shop.growth(name, thing) for thing in growths(now[name])}, growths(now[name]))

    def test_examples(self):
        shop = Workshop()
        self.assertEqual([shop.make(("put", "m", SHUTTLE)), shop.watch("m", "a"),
                          shop.make(("cut", "m", "b"), ("add", "m", DOUBLE["b"])), list(shop.news())],
                         [1, 1, 2, [(("m", "a"), ("power", 2), ("beyond",))]])
        self.assertEqual([shop.undo(), list(shop.news())[0][2], shop["m"] == SHUTTLE, str(shop)],
                         [1, ("power", 2), True, "workshop of 1 graphs, 1 steps"])

    def test_a_new_workshop(self):
        shop = Workshop()
        self.assertEqual(states_of(shop), ((), (), (), [], [], "workshop of 0 graphs, 0 steps", 0))
        self.assertEqual([list(shop), "m" in shop, shop == Workshop(), MAX_GRAPHS], [[], False, True, 20])

    def test_each_edit(self):
        shop = Workshop()
        model = Model()
        for step in ((("put", "m", SHUTTLE),), (("put", "n", PUMP), ("put", "k", EMPTY)), (("set", "m", SHUTTLE),),
                     (("set", "m", SQUARE),), (("drop", "m"),), (("put", "m", SHUTTLE),),
                     (("add", "m", RISE), ("cut", "m", "a")), (("cut", "m", "up"),),
                     (("add", "k", UP), ("set", "k", LOOP), ("add", "k", UP), ("cut", "k", "a"), ("cut", "k", "b")),
                     (("drop", "n"), ("put", "n", DOUBLE), ("drop", "n")), (("drop", "k"), ("drop", "m"))):
            model.apply(step)
            self.assertEqual(shop.make(*step), len(model.steps))
            self.check(shop, model)
        other = Workshop()
        self.assertEqual([other.make_all(step) for step in shop.log], list(range(1, 12)))
        self.check(other, model)

    def test_edits_with_all_they_change(self):
        shop = Workshop()
        shop.make(("put", "m", graph_of("x", "a p q:", "b q p:", "c p p: x-1")))
        shop.make(("cut", "m", "c"))
        self.assertEqual((shop["m"].names, shop["m"].counters), (("a", "b"), ("x",)))
        shop.make(("set", "m", LOOP), ("cut", "m", "a"))
        self.assertEqual((shop["m"].names, shop["m"].states), ((), ("p",)))
        shop.make(("add", "m", ("c", "p", "p", ())))
        self.assertEqual(shop["m"], Graph(("x",), ("c", "p", "p", ())))

    def wrong_edits(self):
        """Edits that cannot be made where m is SHUTTLE and k has no transitions, and their errors."""
        return [(edit, InvalidEdit) for edit in odd_values() if edit != ("drop", "m")] + [
            ((), InvalidEdit), (("put",), InvalidEdit), (("put", "n"), InvalidEdit), (["put", "n", PUMP], InvalidEdit),
            (("put", "n", PUMP, PUMP), InvalidEdit), (("put", "n", PUMP.transitions), InvalidEdit),
            (("put", "n", None), InvalidEdit), (("put", "n", "m"), InvalidEdit), (("put", "N", PUMP), InvalidEdit),
            (("put", 1, PUMP), InvalidEdit), (("put", None, PUMP), InvalidEdit), (("put", "m", PUMP), InvalidEdit),
            (("put", "m", SHUTTLE), InvalidEdit), (("set", "n", PUMP), InvalidEdit), (("set", "m"), InvalidEdit),
            (("set", "m", UP), InvalidEdit), (("set", "m", None), InvalidEdit), (("drop", "n"), InvalidEdit),
            (("drop",), InvalidEdit), (("drop", "m", "m"), InvalidEdit), (("drop", SHUTTLE), InvalidEdit),
            (("drop", None), InvalidEdit), (("drop", ("m",)), InvalidEdit), (("add", "n", UP), InvalidEdit),
            (("add", "m"), InvalidEdit), (("add", "m", "b"), InvalidEdit), (("add", "m", list(UP)), InvalidEdit),
            (("add", "m", UP[:3]), InvalidEdit), (("add", "m", SHUTTLE["a"]), InvalidEdit),
            (("add", "m", ("a", "q", "q", ())), InvalidEdit), (("add", "m", UP, UP), InvalidEdit),
            (("add", "m", None), InvalidEdit), (("cut", "n", "a"), InvalidEdit), (("cut", "m"), InvalidEdit),
            (("cut", "m", "up"), InvalidEdit), (("cut", "m", "x"), InvalidEdit), (("cut", "m", "p"), InvalidEdit),
            (("cut", "m", None), InvalidEdit), (("cut", "m", SHUTTLE["a"]), InvalidEdit),
            (("cut", "m", "a", "b"), InvalidEdit), (("cut", "k", "a"), InvalidEdit), (("Put", "n", PUMP), InvalidEdit),
            (("make", "m", PUMP), InvalidEdit), (("make", "m", UP), InvalidEdit), (("make", "m", "a"), InvalidEdit),
            (("make", "m"), InvalidEdit), (("set", "m", "a"), InvalidEdit), (("cut", "m", UP), InvalidEdit),
            ((None, "m", PUMP), InvalidEdit), (("undo",), InvalidEdit),
            ((PUMP, "m", PUMP), InvalidEdit), (((), "m"), InvalidEdit), (({}, "m", "a"), InvalidEdit),
            (("cut", "m", "go"), InvalidGraph), (("cut", "m", "back"), InvalidGraph),
            (("add", "m", ("x", "p", "p", ())), InvalidGraph), (("add", "m", ("c", "p", "r", ())), InvalidGraph),
            (("add", "m", ("c", "p", "p", (("u", 1),))), InvalidGraph),
            (("add", "k", ("c", "q", "q", ())), InvalidGraph),
        ]

    def test_wrong_edits_change_nothing(self):
        shop = Workshop()
        shop.make(("put", "k", EMPTY))
        shop.make(("put", "m", SHUTTLE))
        shop.watch("m", "a")
        shop.make(("set", "m", DOUBLE))
        shop.undo()
        before = states_of(shop)
        for edit, error in self.wrong_edits():
            for step in ((edit,), (("drop", "k"), ("put", "k", EMPTY), edit), (edit, ("put", "k", EMPTY)),
                         (edit, ("cut", "m", "go"))):
                for call in (lambda: shop.make(*step), lambda: shop.make_all(step)):
                    with self.assertRaises(error, msg=edit) as caught:
                        call()
                    self.assertIs(type(caught.exception), error)
            self.assertEqual(states_of(shop), before)
        self.assertEqual([shop.redo(), shop["m"]], [3, DOUBLE])

    def test_steps_that_are_none(self):
        shop = Workshop()
        for value in odd_values() + [[("put", "m", PUMP)], {}, ("put", "m", PUMP), "put"]:
            with self.assertRaises(InvalidEdit):
                shop.make_all(value)
        with self.assertRaises(InvalidEdit):
            shop.make()
        self.assertEqual([len(shop), shop.log], [0, ()])

    def test_the_first_edit_that_cannot_be_made(self):
        shop = Workshop()
        wrong = [(("drop", "m"), InvalidEdit), (("put", "m", PUMP), None), (("put", "m", PUMP), InvalidEdit),
                 (("cut", "m", "go"), InvalidGraph)]
        for step, error in (((wrong[1], wrong[3], wrong[0]), InvalidGraph),
                            ((wrong[1], wrong[2], wrong[3]), InvalidEdit),
                            ((wrong[1], (("drop", "m"), None), wrong[3]), InvalidEdit)):
            with self.assertRaises(error) as caught:
                shop.make_all(tuple(edit for edit, _ in step))
            self.assertIs(type(caught.exception), error)
        self.assertEqual(len(shop), 0)

    def test_twenty_graphs_and_one_more(self):
        shop = Workshop()
        names = ["g" + letter for letter in "abcdefghijklmnopqrst"]
        shop.make(*[("put", name, EMPTY) for name in names])
        self.assertEqual(len(shop), 20)
        for step in ((("put", "m", PUMP),), (("set", "ga", PUMP), ("put", "m", PUMP)),
                     (("put", "m", PUMP), ("drop", "ga"))):
            with self.assertRaises(TooMany) as caught:
                shop.make(*step)
            self.assertEqual(caught.exception.limit, 20)
        for edit in (("put", "ga", PUMP), ("put", "m", None), ("put", "M", PUMP)):
            with self.assertRaises(InvalidEdit):
                shop.make(edit)
        self.assertEqual([shop.make(("drop", "ga"), ("put", "m", PUMP)), len(shop)], [2, 20])
        self.assertEqual(shop["gb"], EMPTY)
        with self.assertRaises(TooMany):
            shop.make_all(tuple(("put", name, EMPTY) for name in ["n" + one for one in "abcdefghijklmnopqrstu"]))

    def test_names_and_graphs(self):
        shop = Workshop()
        shop.make(("put", "zz", PUMP), ("put", "b", SHUTTLE), ("put", "aa", EMPTY))
        self.assertEqual([shop.names, list(shop), tuple(shop)],
                         [("aa", "b", "zz"), ["aa", "b", "zz"], ("aa", "b", "zz")])
        self.assertEqual([shop["zz"], shop["aa"]], [PUMP, EMPTY])
        self.assertEqual([name in shop for name in ("zz", "b", "aa", "a", "")], [True, True, True, False, False])
        for value in odd_names("aa", "b", "zz"):
            self.assertIs(value in shop, False)
            for call in (lambda: shop[value], lambda: shop.growth(value, "nosuch")):
                with self.assertRaises(UnknownName) as caught:
                    call()
                self.assertIs(caught.exception.name, value)
        for value in odd_names("a", "b", "go", "back", "u", "z"):
            with self.assertRaises(UnknownName) as caught:
                shop.growth("zz", value)
            self.assertIs(caught.exception.name, value)
        self.assertEqual([shop.growth("zz", "b"), shop.growth("b", "a"), shop.growth("aa", "x")],
                         [("free", 1), ("power", 2), ("power", 1)])
        for name in ("names", "log", "watches"):
            with self.assertRaises(AttributeError):
                setattr(shop, name, ())

    def test_equality(self):
        one, two = Workshop(), Workshop()
        one.make(("put", "m", PUMP), ("put", "n", SHUTTLE))
        two.make(("put", "n", SHUTTLE))
        self.assertTrue(one != two and not one == two)
        two.make(("put", "m", DOUBLE))
        self.assertTrue(one != two)
        two.make(("set", "m", Graph.of(PUMP.counters, PUMP.transitions)))
        two.watch("m", "a")
        self.assertTrue(one == two and not one != two)
        two.make(("drop", "n"), ("put", "k", SHUTTLE))
        self.assertTrue(one != two)
        for value in odd_values() + [{"m": PUMP, "n": SHUTTLE}]:
            self.assertTrue(one != value and not one == value)

    def test_undo_and_redo(self):
        shop = Workshop()
        model = Model()
        graphs = [loop_graph(seed, most=6) for seed in range(6)]
        for at, graph in enumerate(graphs):
            step = (("put" if at == 0 else "set", "m", graph),)
            model.apply(step)
            shop.make_all(step)
        for back, many in ((True, 0), (True, 2), (False, 1), (True, 3), (False, 0), (False, 4), (True, 6), (False, 6),
                           (True, 5)):
            self.assertEqual(shop.undo(many=many) if back else shop.redo(many=many),
                             len(model.steps) + (-many if back else many))
            (model.back if back else model.again)(many)
            self.check(shop, model)
        for call, most in ((shop.undo, 1), (shop.redo, 5)):
            before = states_of(shop)
            for many in (most + 1, most + 2, 10 ** 999):
                with self.assertRaises(NothingToUndo) as caught:
                    call(many=many)
                self.assertEqual(caught.exception.many, many)
            for value in odd_numbers():
                with self.assertRaises(InvalidNumber) as caught:
                    call(many=value)
                self.assertIs(caught.exception.value, value)
            self.assertEqual(states_of(shop), before)
        # A new step ends what can be made again; one that cannot be made does not.
        with self.assertRaises(InvalidEdit):
            shop.make(("put", "m", PUMP))
        self.assertEqual([shop.redo(), shop.redo()], [2, 3])
        self.assertEqual(shop.undo(many=2), 1)
        shop.make(("set", "m", SHUTTLE))
        with self.assertRaises(NothingToUndo):
            shop.redo()
        self.assertEqual([shop.redo(many=0), shop.undo(many=2), shop.names, shop.redo(many=2), shop["m"]],
                         [2, 0, (), 2, SHUTTLE])
        for call in (Workshop().undo, Workshop().redo):
            with self.assertRaises(NothingToUndo) as caught:
                call()
            self.assertEqual(caught.exception.many, 1)
            self.assertEqual(call(many=0), 0)

    def test_watches(self):
        shop = Workshop()
        self.assertEqual([shop.watch("n", "b"), shop.watch("m", "x"), shop.watch("m", "a"), shop.watch("n", "b")],
                         [1, 2, 3, 3])
        self.assertEqual(shop.watches, (("m", "a"), ("m", "x"), ("n", "b")))
        self.assertEqual([shop.unwatch("m", "x"), shop.watches], [2, (("m", "a"), ("n", "b"))])
        self.assertEqual(shop.log, ())
        for name, thing in (("m", "x"), ("m", "b"), ("b", "n"), ("k", "a")):
            with self.assertRaises(InvalidOperation):
                shop.unwatch(name, thing)
        for value in odd_values() + ["abcdefghi", "a1", "A"]:
            if value not in ("a", "x", "p", "zz"):
                for call in (shop.watch, shop.unwatch):
                    with self.assertRaises(InvalidOperation):
                        call(value, "a")
                    with self.assertRaises(InvalidOperation):
                        call("m", value)
        self.assertEqual(shop.watches, (("m", "a"), ("n", "b")))
        self.assertEqual([shop.unwatch("n", "b"), shop.unwatch("m", "a"), shop.watches], [1, 0, ()])

    def test_news_of_each_change(self):
        shop = Workshop()
        for thing in ("a", "x", "up", "nosuch"):
            shop.watch("m", thing)
        shop.watch("k", "a")
        self.assertEqual(list(shop.news()), [])
        shop.make(("put", "m", SHUTTLE))
        self.assertEqual(list(shop.news()), [(("m", "a"), None, ("power", 2)), (("m", "x"), None, ("power", 1))])
        self.assertEqual(list(shop.news()), [(("m", "a"), None, ("power", 2)), (("m", "x"), None, ("power", 1))])
        shop.make(("add", "m", RISE))
        told = [(("m", "a"), ("power", 2), ("free", 0)), (("m", "up"), None, ("free", 0)),
                (("m", "x"), ("power", 1), ("free", 0))]
        self.assertEqual(list(shop.news()), told)
        shop.make(("set", "m", shop["m"]))
        self.assertEqual(list(shop.news()), [])
        shop.make(("put", "k", LOOP), ("drop", "m"), ("put", "m", SHUTTLE))
        back = [(pair, new, old) for pair, old, new in told]
        self.assertEqual(list(shop.news()), [(("k", "a"), None, ("power", 1))] + back)
        shop.undo(many=2)
        self.assertEqual(list(shop.news()), [(("k", "a"), ("power", 1), None)] + told)
        # Steps that are made and taken back together: what lies between does not count.
        shop.redo(many=2)
        shop.undo(many=4)
        self.assertEqual(list(shop.news()), [(("k", "a"), ("power", 1), None), (("m", "a"), ("power", 2), None),
                                             (("m", "x"), ("power", 1), None)])
        shop.redo(many=4)
        self.assertEqual([one[2] for one in shop.news()], [("power", 1), ("power", 2), ("power", 1)])
        for call in (shop.undo, shop.redo):
            self.assertEqual(call(many=0), 4)
            self.assertEqual(list(shop.news()), [])

    def test_a_free_growth_of_another_rank_is_news(self):
        shop = Workshop()
        shop.make(("put", "m", PUMP))
        shop.watch("m", "b")
        shop.make(("add", "m", ("c", "t", "t", (("u", 1),))))
        self.assertEqual(list(shop.news()), [(("m", "b"), ("free", 1), ("free", 0))])

    def test_calls_that_raise_leave_the_news(self):
        shop = Workshop()
        shop.watch("m", "a")
        shop.make(("put", "m", SHUTTLE))
        told = list(shop.news())
        self.assertEqual(len(told), 1)
        for call in (lambda: shop.make(("drop", "m"), ("drop", "m")), lambda: shop.make(), lambda: shop.undo(many=2),
                     lambda: shop.redo(), lambda: shop.undo(many=-1), lambda: shop.make_all(None),
                     lambda: shop.watch("m", 1), lambda: shop.unwatch("m", "b")):
            with self.assertRaises(Exception):
                call()
            self.assertEqual(list(shop.news()), told)
        shop.watch("m", "b")
        shop.growth("m", "a")
        self.assertEqual([one[0] for one in shop.news()], [("m", "a"), ("m", "b")])

    def test_news_for_the_watches_at_the_first_result(self):
        shop = Workshop()
        shop.watch("m", "a")
        news = shop.news()
        shop.make(("put", "m", SHUTTLE))
        shop.watch("m", "b")
        shop.unwatch("m", "a")
        self.assertEqual(next(news), (("m", "b"), None, ("power", 2)))
        # From now on the generator goes its own way.
        shop.watch("m", "x")
        shop.unwatch("m", "b")
        self.assertEqual(list(news), [])
        shop.watch("m", "y")
        again = shop.news()
        first = next(again)
        shop.undo()
        shop.unwatch("m", "y")
        self.assertEqual([first] + list(again), [(("m", "x"), None, ("power", 1)), (("m", "y"), None, ("power", 1))])
        self.assertEqual(list(shop.news()), [(("m", "x"), ("power", 1), None)])

    def test_all_of_it_against_a_model(self):
        source = random.Random(181)
        graphs = [SHUTTLE, DOUBLE, PUMP, SQUARE, EMPTY, LOOP] + [loop_graph(seed, most=5) for seed in range(6)]
        for _ in range(12):
            shop, model = Workshop(), Model()
            for _ in range(40):
                kind = source.randint(0, 6)
                many = source.randint(0, 3)
                if kind < 3:
                    step = tuple(self.random_edit(source, graphs) for _ in range(source.randint(1, 2)))
                    before = states_of(shop)
                    try:
                        made = shop.make_all(step)
                    except (InvalidEdit, InvalidGraph):
                        self.assertEqual(states_of(shop), before)
                        continue
                    model.apply(step)
                    self.assertEqual(made, len(model.steps))
                elif kind == 3 and many <= len(model.steps):
                    model.back(many)
                    self.assertEqual(shop.undo(many=many), len(model.steps))
                elif kind == 4 and many <= len(model.undone):
                    model.again(many)
                    self.assertEqual(shop.redo(many=many), len(model.steps))
                elif kind > 4:
                    pair = (source.choice("mn"), source.choice(("a", "b", "x", "ta", "tb")))
                    if pair in model.watches and kind == 5:
                        model.watches.remove(pair)
                        self.assertEqual(shop.unwatch(*pair), len(model.watches))
                    else:
                        model.watches = sorted({*model.watches, pair})
                        self.assertEqual(shop.watch(*pair), len(model.watches))
                self.check(shop, model)

    def random_edit(self, source, graphs):
        name = source.choice("mn")
        kind = source.choice(("put", "put", "set", "drop", "add", "cut"))
        if kind in ("put", "set"):
            return kind, name, source.choice(graphs)
        if kind == "drop":
            return kind, name
        if kind == "cut":
            return kind, name, source.choice(("a", "b", "ta", "tb", "na"))
        return kind, name, source.choice((UP, RISE, ("na", "p", "p", ()), ("na", "a", "a", (("u", 1),))))

    def test_trials(self):
        shop = Workshop()
        shop.make(("put", "m", SHUTTLE))
        shop.make(("set", "m", DOUBLE))
        shop.make(("drop", "m"))
        shop.undo()
        shop.watch("m", "a")
        before = states_of(shop)
        with shop.trial() as same:
            self.assertIs(same, shop)
            shop.make(("put", "n", PUMP))
            shop.watch("n", "b")
            shop.unwatch("m", "a")
            with shop.trial() as inner:
                self.assertIs(inner, shop)
                inner.undo(many=3)
                self.assertEqual(len(shop), 0)
                inside = None
                with self.assertRaises(ZeroDivisionError):
                    with shop.trial():
                        shop.make(("put", "k", PUMP))
                        1 // 0
                self.assertEqual((shop.names, shop.log, inside), ((), (), None))
            self.assertEqual((shop.names, shop.watches, len(shop.log)), (("m", "n"), (("n", "b"),), 3))
        self.assertEqual(states_of(shop), before)
        self.assertEqual([shop.redo(), shop.names], [3, ()])
        shop.undo()
        for error in (KeyError, InvalidEdit, ValueError):
            before = states_of(shop)
            with self.assertRaises(error):
                with shop.trial():
                    shop.undo()
                    raise error("why")
            self.assertEqual(states_of(shop), before)
            self.assertEqual([shop.redo(), shop.undo()], [3, 2])

    def test_one_block_entered_twice(self):
        shop = Workshop()
        shop.make(("put", "m", SHUTTLE))
        block = shop.trial()
        with block:
            shop.make(("drop", "m"))
            with block:
                shop.make(("put", "n", PUMP))
            self.assertEqual(shop.names, ())
        self.assertEqual(shop.names, ("m",))
        with block:
            shop.undo()
        self.assertEqual([shop.names, len(shop.log)], [("m",), 1])

    def test_attempts(self):
        shop = Workshop()
        shop.make(("put", "m", SHUTTLE))
        shop.watch("m", "a")
        before = states_of(shop)
        told = shop.attempt(lambda same: (same is shop, same.make(("set", "m", DOUBLE)), list(same.news())))
        self.assertEqual(told, (True, 2, [(("m", "a"), ("power", 2), ("beyond",))]))
        self.assertEqual(states_of(shop), before)
        self.assertEqual(shop.attempt(lambda same: same.attempt(lambda inner: inner.undo()) + len(same)), 1)
        with self.assertRaises(InvalidEdit):
            shop.attempt(lambda same: (same.undo(), same.make(("drop", "m"))))
        self.assertEqual(states_of(shop), before)
        with self.assertRaises(NothingToUndo):
            shop.redo()

    def test_twins(self):
        shop = Workshop()
        shop.make(("put", "m", SHUTTLE))
        shop.make(("set", "m", DOUBLE))
        shop.watch("m", "a")
        shop.undo()
        other = shop.twin()
        self.assertIsInstance(other, Workshop)
        self.assertEqual(states_of(other), states_of(shop))
        self.assertTrue(other == shop and other is not shop)
        self.assertEqual(list(other.news()), [(("m", "a"), ("beyond",), ("power", 2))])
        before = states_of(shop)
        self.assertEqual([other.redo(), other["m"]], [2, DOUBLE])
        other.make(("put", "n", PUMP))
        other.watch("n", "a")
        other.unwatch("m", "a")
        self.assertEqual(states_of(shop), before)
        told = states_of(other)
        self.assertEqual(shop.redo(), 2)
        shop.undo(many=2)
        shop.make(("put", "k", EMPTY))
        self.assertEqual(states_of(other), told)
        with shop.trial():
            self.assertEqual(shop.twin().names, ("k",))

    def test_nothing_gives_access(self):
        shop = Workshop()
        edits = [("put", "m", SHUTTLE), ("put", "n", PUMP)]
        shop.make_all(tuple(edits))
        edits.clear()
        self.assertEqual(len(shop.log[0]), 2)
        names = list(shop.names)
        names.append("k")
        self.assertEqual(shop.names, ("m", "n"))
        for told in (shop.names, shop.log, shop.watches):
            self.assertIs(type(told), tuple)
        with self.assertRaises(TypeError):
            shop["k"] = PUMP
        self.assertEqual(next(iter([*shop])), "m")

    def test_results_hang_on_the_present_graphs_alone(self):
        source = random.Random(182)
        graphs = [SHUTTLE, DOUBLE, PUMP, SQUARE, LOOP] + [loop_graph(seed, most=6) for seed in range(10)]
        shop = Workshop()
        shop.make(("put", "m", SHUTTLE))
        for _ in range(60):
            kind = source.randint(0, 2)
            if kind == 0:
                shop.make(("set", "m", source.choice(graphs)))
            elif kind == 1 and len(shop.log) > 1:
                shop.undo()
            else:
                with shop.trial():
                    shop.make(("set", "m", source.choice(graphs)))
                    shop.growth("m", shop["m"].counters[0])
            graph = Graph.of(shop["m"].counters, shop["m"].transitions, shop["m"].states)
            self.assertEqual({thing: shop.growth("m", thing) for thing in growths(graph)}, growths(graph))
            other = Workshop()
            other.make(("put", "m", graph))
            self.assertEqual(shop, other)


if __name__ == "__main__":
    unittest.main()

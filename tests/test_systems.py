"""Stage "exact systems": points 1.1 and 1.2."""

import itertools
import random
import unittest
from unittest import mock

from loopgrowth.errors import InvalidNumber, InvalidSystem
from loopgrowth.exact.systems import (
    MAX_COLUMNS, MAX_ROWS, alternative, carried_columns, gained_rows, is_alternative, is_row_alternative, is_solution,
    is_system, row_alternative, solution,
)
from samples import odd_values

SYSTEM = (("least", (-1, 1, 0)), ("least", (1, -1, -1)))


def row_sums(system, shares):
    return [sum(share * number for share, number in zip(shares, numbers)) for _, numbers in system]


def column_sums(system, forces):
    return [sum(force * numbers[at] for force, (_, numbers) in zip(forces, system))
            for at in range(len(system[0][1]))]


def random_system(source, greatest=99):
    many, wide = source.randint(1, 12), source.randint(0, 8)
    density, equals = source.choice((0.3, 0.6, 1)), source.choice((0, 0.2, 0.5))
    rows = []
    for _ in range(many):
        numbers = tuple(source.randint(-greatest, greatest) if source.random() < density else 0 for _ in range(wide))
        rows.append(("equal" if source.random() < equals else "least", numbers))
        if source.random() < 0.1:
            rows.append(source.choice(rows))
    return tuple(rows)


def growing_system(wide):
    """Each share must be 99 times the one ahead of it."""
    rows = []
    for at in range(wide - 1):
        for sign in (1, -1):
            numbers = [0] * wide
            numbers[at], numbers[at + 1] = -99 * sign, sign
            rows.append(("least", tuple(numbers)))
    return tuple(rows)


def many_systems():
    source = random.Random(7)
    systems = [random_system(source) for _ in range(150)]
    systems += [random_system(source, greatest) for greatest in (1, 2, 1000000) for _ in range(30)]
    systems += [growing_system(wide) for wide in (2, 5, 20)]
    systems += [tuple(reversed(growing_system(20))), (("least", ()),), (("equal", ()), ("least", ()))]
    systems += [(("equal", (1, -1)), ("equal", (1, -1)), ("equal", (2, -2))), (("equal", (0, 0)),), (("least", (0,)),)]
    return systems


def large_system(source, greatest=99):
    """60 rows and 20 columns, with rows of which about half must have the sum 0."""
    shares = [source.randint(0, 2) for _ in range(20)]
    rows = []
    while len(rows) < 60:
        numbers = [source.randint(-greatest, greatest) for _ in range(20)]
        total = sum(share * number for share, number in zip(shares, numbers))
        if total < 0:
            numbers = [-number for number in numbers]
        if source.random() < 0.5 and 1 in shares:
            at = shares.index(1)
            fitting = numbers[at] - sum(share * number for share, number in zip(shares, numbers))
            numbers[at] = fitting if abs(fitting) <= greatest else numbers[at]
        rows.append(("least", tuple(numbers)))
    return tuple(rows)


class TestIsSystem(unittest.TestCase):
    def test_constants(self):
        self.assertEqual((MAX_ROWS, MAX_COLUMNS), (60, 20))

    def test_systems(self):
        good = [SYSTEM, (("least", ()),), (("equal", ()),) * 60, (("least", (0,) * 20),) * 60,
                (("equal", (1000000, -1000000)),), (("least", (1,)), ("equal", (2,)))]
        for value in good:
            self.assertIs(is_system(value), True)

    def test_others(self):
        row = ("least", (1, 2))
        bad = [(), (("least", ()),) * 61, (("least", (0,) * 21),), (("least", (1000001,)),), (("least", (-1000001,)),),
               [row], (list(row),), (("least", [1, 2]),), (("least", (True, 2)),), (("least", (1, None)),),
               (("most", (1, 2)),), (("Least", (1, 2)),), (("equals", (1, 2)),), ((None, (1, 2)),), ((b"", (1, 2)),),
               ((1, (1, 2)),), (row, ("least", (1,))), (row, ("least", ())), (("least",),), (("least", (1, 2), 3),),
               (row, None), (row, ()), ((["least"], (1,)),), (("least", 1),), (("least", ("1",)),), row,
               {"least": (1,)}, (("least", {1: 2}),), (("least", ((1,),)),)]
        for value in bad + odd_values():
            self.assertIs(is_system(value), False, value)

    def test_every_function_refuses_what_is_no_system(self):
        for value in [(), [("least", (1,))], (("least", (True,)),), (("least", (0,) * 21),)] + odd_values():
            for call in (solution, carried_columns, gained_rows, lambda one: is_solution(one, None),
                         lambda one: alternative(one, "no"), lambda one: is_alternative(one, -1, None),
                         lambda one: row_alternative(one, None), lambda one: is_row_alternative(one, 99, None)):
                with self.assertRaises(InvalidSystem):
                    call(value)


class TestSolutions(unittest.TestCase):
    def check(self, system):
        """The solution, checked by sums; what is carried and gained agrees with it."""
        found = solution(system)
        self.assertIsInstance(found, tuple)
        forces, shares = found
        self.assertIsInstance(forces, tuple)
        self.assertIsInstance(shares, tuple)
        self.assertEqual((len(forces), len(shares)), (len(system), len(system[0][1])))
        self.assertTrue(all(type(number) is int for number in forces + shares))
        self.assertTrue(all(share >= 0 for share in shares))
        sums, totals = row_sums(system, shares), column_sums(system, forces)
        for share, total in zip(shares, totals):
            self.assertLessEqual(total, 0)
            self.assertNotEqual(share > 0, total < 0)
        for (word, _), force, total in zip(system, forces, sums):
            if word == "equal":
                self.assertEqual(total, 0)
            else:
                self.assertTrue(total >= 0 and force >= 0)
                self.assertNotEqual(force > 0, total > 0)
        self.assertEqual(carried_columns(system), tuple(at for at, share in enumerate(shares) if share > 0))
        self.assertEqual(gained_rows(system), tuple(at for at, total in enumerate(sums) if total > 0))
        self.assertIs(is_solution(system, found), True)
        self.assertEqual(solution(system), found)
        return forces, shares

    def test_example(self):
        self.assertEqual([carried_columns(SYSTEM), gained_rows(SYSTEM), is_solution(SYSTEM, ((1, 1), (1, 1, 0)))],
                         [(0, 1), (), True])
        self.assertEqual([alternative(SYSTEM, 2)[0], is_alternative(SYSTEM, 0, ("shares", (5, 5, 0))),
                          is_solution(SYSTEM, ((0, 1), (1, 1, 0)))], ["forces", True, False])

    def test_many_systems(self):
        for system in many_systems():
            self.check(system)

    def test_the_slow_choices_that_always_end(self):
        for patience in (0, 1, 4):
            with mock.patch("loopgrowth.exact.cones._PATIENCE", patience):
                for system in many_systems()[::3] + [large_system(random.Random(5))]:
                    self.check(system)

    def test_small_answers(self):
        self.assertEqual(carried_columns((("least", ()),)), ())
        self.assertEqual(solution((("equal", ()),))[1], ())
        self.assertGreater(solution((("least", ()), ("equal", ())))[0][0], 0)
        self.assertEqual(carried_columns((("least", (1, -1)),)), (0, 1))
        self.assertEqual(gained_rows((("least", (1, -1)),)), (0,))
        self.assertEqual(carried_columns((("equal", (1, 1)),)), ())
        self.assertEqual(carried_columns((("equal", (1, -1)), ("equal", (-2, 2)))), (0, 1))
        self.assertEqual(gained_rows((("equal", (0,)), ("least", (3,)))), (1,))

    def test_shares_that_grow(self):
        for wide in (2, 10, 20):
            _, shares = self.check(growing_system(wide))
            self.assertEqual([two for two in shares[1:]], [99 * one for one in shares[:-1]])

    def test_digits_of_large_systems(self):
        source = random.Random(11)
        systems = [large_system(source) for _ in range(6)] + [growing_system(20)]
        systems.append(tuple(("least", tuple(source.randint(-99, 99) for _ in range(20))) for _ in range(60)))
        for system in systems:
            forces, shares = self.check(system)
            row = [at for at, (word, _) in enumerate(system) if word == "least"][0]
            for _, numbers in [("", forces), ("", shares), alternative(system, 0), row_alternative(system, row)]:
                self.assertTrue(all(abs(number) < 10 ** 900 for number in numbers))

    def test_large_numbers(self):
        self.check(large_system(random.Random(3), 1000000))

    def test_sums_of_solutions(self):
        for system in many_systems()[:40]:
            forces, shares = solution(system)
            for many in (2, 10 ** 900):
                self.assertIs(is_solution(system, (tuple(many * one for one in forces),
                                                   tuple(one + (many - 1) * one for one in shares))), True)

    def test_wrong_solutions(self):
        for system in many_systems()[:80]:
            forces, shares = solution(system)
            for at in range(len(shares)):
                wrong = shares[:at] + (-1,) + shares[at + 1:]
                self.assertIs(is_solution(system, (forces, wrong)), False)
                # A share of the other kind breaks the choice of its column.
                other = 0 if shares[at] else 1
                self.assertIs(is_solution(system, (forces, shares[:at] + (other,) + shares[at + 1:])), False)
            for at in range(len(forces)):
                if system[at][0] == "least":
                    self.assertIs(is_solution(system, (forces[:at] + (-1,) + forces[at + 1:], shares)), False)
                    other = 0 if forces[at] else 1
                    self.assertIs(is_solution(system, (forces[:at] + (other,) + forces[at + 1:], shares)), False)

    def test_values_that_are_no_pair_of_tuples(self):
        forces, shares = (1, 1), (1, 1, 0)
        bad = [[forces, shares], (list(forces), shares), (forces, list(shares)), (forces,), (forces, shares, ()),
               (shares, forces), ((1, 1, 1), shares), (forces, (1, 1)), ((True, 1), shares), (forces, (True, 1, 0)),
               (forces, (1, 1, False)), ((1, None), shares), (("1", 1), shares), {0: forces, 1: shares}]
        for value in bad + odd_values():
            self.assertIs(is_solution(SYSTEM, value), False, value)

    def test_equal_rows_may_have_any_force(self):
        system = (("equal", (1, -1)), ("least", (0, 0)))
        self.assertIs(is_solution(system, ((0, 1), (3, 3))), True)
        system = (("equal", (1,)),)
        self.assertIs(is_solution(system, ((-4,), (0,))), True)
        self.assertIs(is_solution(system, ((4,), (0,))), False)
        self.assertIs(is_solution(system, ((0,), (0,))), False)


def is_right(system, kind, numbers):
    """Whether the shares or forces break no row or column, by the sums of this test."""
    if kind == "shares":
        return all(share >= 0 for share in numbers) and all(
            total == 0 or total > 0 and word == "least" for total, (word, _) in zip(row_sums(system, numbers), system))
    return all(force >= 0 or word == "equal" for force, (word, _) in zip(numbers, system)) and all(
        total <= 0 for total in column_sums(system, numbers))


class TestAlternatives(unittest.TestCase):
    def test_columns(self):
        for system in many_systems():
            carried = carried_columns(system)
            for column in range(len(system[0][1])):
                pair = alternative(system, column)
                kind, numbers = pair
                self.assertEqual(kind, "shares" if column in carried else "forces")
                self.assertTrue(is_right(system, kind, numbers))
                self.assertTrue(numbers[column] > 0 if kind == "shares" else column_sums(system, numbers)[column] < 0)
                self.assertIs(is_alternative(system, column, pair), True)
                self.assertIs(is_alternative(system, column, (kind, tuple(3 * one for one in numbers))), True)
                self.assertIs(is_alternative(system, column, (kind, tuple(0 * one for one in numbers))), False)

    def test_rows(self):
        for system in many_systems():
            gained = gained_rows(system)
            for row in [at for at, (word, _) in enumerate(system) if word == "least"]:
                pair = row_alternative(system, row)
                kind, numbers = pair
                self.assertEqual(kind, "shares" if row in gained else "forces")
                self.assertTrue(is_right(system, kind, numbers))
                self.assertTrue(row_sums(system, numbers)[row] > 0 if kind == "shares" else numbers[row] > 0)
                self.assertIs(is_row_alternative(system, row, pair), True)
                self.assertIs(is_row_alternative(system, row, (kind, tuple(7 * one for one in numbers))), True)
                self.assertIs(is_row_alternative(system, row, (kind, tuple(0 * one for one in numbers))), False)

    def test_judges_by_trying_small_numbers(self):
        for system in [(("least", (-1, 1, 0)), ("equal", (1, -1, -1))), (("least", (1, 0, 2)), ("equal", (0, 1, -1))),
                       (("least", (1, 1, 1)), ("equal", (1, 1, -2))), (("least", (0, 0, 0)), ("equal", (0, 0, 0))),
                       (("least", (2, -1, -1)), ("equal", (0, 0, 1))), (("least", (1, 2, 0)), ("least", (-1, -1, 0)))]:
            self.try_small_shares(system)
            self.try_small_forces(system)
            self.try_small_solutions(system)

    def try_small_shares(self, system):
        for shares in itertools.product(range(-1, 3), repeat=3):
            right = is_right(system, "shares", shares)
            for column in range(3):
                self.assertIs(is_alternative(system, column, ("shares", shares)), right and shares[column] > 0)
            gains = right and row_sums(system, shares)[0] > 0
            self.assertIs(is_row_alternative(system, 0, ("shares", shares)), gains)

    def try_small_forces(self, system):
        for forces in itertools.product(range(-2, 3), repeat=2):
            right = is_right(system, "forces", forces)
            for column in range(3):
                falls = right and column_sums(system, forces)[column] < 0
                self.assertIs(is_alternative(system, column, ("forces", forces)), falls)
            self.assertIs(is_row_alternative(system, 0, ("forces", forces)), right and forces[0] > 0)

    def try_small_solutions(self, system):
        for forces in itertools.product(range(-2, 3), repeat=2):
            for shares in itertools.product(range(-1, 3), repeat=3):
                right = is_right(system, "forces", forces) and is_right(system, "shares", shares)
                right = right and all((share > 0) != (total < 0)
                                      for share, total in zip(shares, column_sums(system, forces)))
                right = right and all(word == "equal" or (force > 0) != (total > 0) for (word, _), force, total
                                      in zip(system, forces, row_sums(system, shares)))
                self.assertIs(is_solution(system, (forces, shares)), right)

    def test_values_that_are_no_pair(self):
        bad = [["shares", (5, 5, 0)], ("shares", [5, 5, 0]), ("share", (5, 5, 0)), ("shares", (5, 5)), ("shares",),
               ("shares", (5, 5, 0), 0), ("forces", (5, 5, 0)), ("shares", (True, 1, 0)), ((5, 5, 0), "shares"),
               ("shares", (5, 5, False)), (None, (5, 5, 0)), ("forces", (1,)), ("forces", (1, True))]
        for value in bad + odd_values():
            self.assertIs(is_alternative(SYSTEM, 0, value), False, value)
            self.assertIs(is_row_alternative(SYSTEM, 0, value), False, value)

    def test_numbers_that_are_no_index(self):
        system = (("equal", (1, -1, 0)), ("least", (1, -1, -1)))
        indices = {alternative: (0, 1, 2), row_alternative: (1,)}
        indices[lambda one, at: is_alternative(one, at, None)] = (0, 1, 2)
        indices[lambda one, at: is_row_alternative(one, at, None)] = (1,)
        for call, right in indices.items():
            for value in odd_values() + [0, 1, 2, 3, -1, -2, True, False, 10 ** 30, "1", (1,)]:
                if type(value) is int and value in right:
                    call(system, value)
                    continue
                with self.assertRaises(InvalidNumber) as caught:
                    call(system, value)
                self.assertIs(caught.exception.value, value)
        for call in (alternative, lambda one, at: is_alternative(one, at, None)):
            with self.assertRaises(InvalidNumber):
                call((("least", ()),), 0)

    def test_nothing_is_changed(self):
        value = ["shares", [5, 5, 0]]
        is_alternative(SYSTEM, 0, value)
        is_solution(SYSTEM, value)
        self.assertEqual(value, ["shares", [5, 5, 0]])


if __name__ == "__main__":
    unittest.main()

"""Stage "polynomials"."""

import random
import unittest

from loopgrowth.bounds.polynomials import Polynomial
from loopgrowth.errors import InvalidNumber, InvalidOperation
from samples import odd_numbers, odd_values

GREAT = 10 ** 999


def some_coefficients():
    source = random.Random(121)
    told = [(), (0,), (1,), (7,), (0, 0), (0, 1), (5, 0, 0), (3, 1, 2), (0, 0, 1), (1, 1), (0, GREAT),
            (GREAT, 1, GREAT)]
    for _ in range(60):
        greatest = source.choice((1, 9, 10 ** 30))
        told.append(tuple(source.randint(0, greatest) for _ in range(source.randint(0, 7))))
    return told


def stripped(coefficients):
    told = list(coefficients)
    while told and told[-1] == 0:
        told.pop()
    return tuple(told)


def worth(coefficients, n):
    return sum(number * n ** at for at, number in enumerate(coefficients))


def product_of(one, two):
    told = [0] * (len(one) + len(two))
    for at, first in enumerate(one):
        for to, second in enumerate(two):
            told[at + to] += first * second
    return stripped(told)


def sum_of(one, two):
    told = [0] * max(len(one), len(two))
    for coefficients in (one, two):
        for at, number in enumerate(coefficients):
            told[at] += number
    return stripped(told)


def text_of(coefficients):
    words = []
    for at, number in enumerate(coefficients):
        if number:
            power = ["", "n"][at] if at < 2 else f"n^{at}"
            words.insert(0, power if number == 1 and at else f"{number} {power}".strip())
    return " + ".join(words) or "0"


class TestPolynomials(unittest.TestCase):
    def test_examples(self):
        p = Polynomial(3, 1, 2)
        self.assertEqual([str(p), p(10), p.degree, p[7], (p + 1).coefficients, (Polynomial(0, 1) * p).coefficients,
                          p.reach(24), p.reach(25)],
                         ["2 n^2 + n + 3", 213, 2, 0, (4, 1, 2), (0, 3, 1, 2), 3, 4])
        self.assertEqual([str(p ** 2), str(p.at(Polynomial(1, 1))), Polynomial(5).reach(6), Polynomial(0, 0).degree],
                         ["4 n^4 + 4 n^3 + 13 n^2 + 6 n + 9", "2 n^2 + 5 n + 6", None, -1])

    def test_coefficients_and_degree(self):
        for told in some_coefficients():
            for p in (Polynomial(*told), Polynomial.of(told), Polynomial(*told, 0, 0), Polynomial.of(told + (0,))):
                self.assertIsInstance(p, Polynomial)
                self.assertEqual((p.coefficients, p.degree), (stripped(told), len(stripped(told)) - 1))
                self.assertIs(type(p.coefficients), tuple)
                self.assertEqual((len(p), list(p), tuple(p)),
                                 (len(stripped(told)), list(p.coefficients), p.coefficients))
                self.assertIs(bool(p), stripped(told) != ())

    def test_values_and_items(self):
        for told in some_coefficients():
            p = Polynomial(*told)
            for n in (0, 1, 2, 10, 10 ** 30, GREAT):
                self.assertEqual(p(n), worth(told, n))
            for k in range(10):
                self.assertEqual(p[k], told[k] if k < len(told) else 0)
            self.assertEqual(p[GREAT], 0)
        p = Polynomial(3, 1, 2)
        for value in odd_numbers() + [slice(0, 2), -3]:
            for call in (p, lambda one: p[one]):
                with self.assertRaises(InvalidNumber) as caught:
                    call(value)
                self.assertIs(caught.exception.value, value)

    def test_reach(self):
        goals = list(range(40)) + [10 ** 30 - 1, 10 ** 30, 10 ** 30 + 1, GREAT, GREAT + 1]
        for told in some_coefficients():
            p = Polynomial(*told)
            for goal in goals:
                n = p.reach(goal)
                if n is None:
                    self.assertTrue(len(stripped(told)) < 2 and worth(told, 0) < goal)
                else:
                    self.assertGreaterEqual(worth(told, n), goal)
                    self.assertTrue(n == 0 or worth(told, n - 1) < goal)
        self.assertEqual([Polynomial().reach(0), Polynomial().reach(1), Polynomial(5).reach(5), Polynomial(5).reach(6)],
                         [0, None, 0, None])
        self.assertEqual(Polynomial(0, 0, 1).reach(GREAT * 10 + 1), 10 ** 500 + 1)
        self.assertEqual(Polynomial(0, 1).reach(GREAT), GREAT)
        for value in odd_numbers():
            for p in (Polynomial(), Polynomial(3, 1)):
                with self.assertRaises(InvalidNumber) as caught:
                    p.reach(value)
                self.assertIs(caught.exception.value, value)

    def test_reach_of_many_degrees(self):
        for degree in (1, 2, 3, 7, 20, 60):
            p = Polynomial(*([0] * degree + [1]))
            for goal in (1, 2, 2 ** degree - 1, 2 ** degree, 2 ** degree + 1, 3 ** degree, GREAT):
                n = p.reach(goal)
                self.assertTrue(n ** degree >= goal > (n - 1) ** degree)

    def check_reach(self, p, goal):
        """Checks the least n by the values of the polynomial."""
        n = p.reach(goal)
        if n is None:
            self.assertTrue(p.degree < 1 and p(0) < goal, (p.coefficients, goal))
        else:
            self.assertIs(type(n), int)
            self.assertTrue(p(n) >= goal and (n == 0 or p(n - 1) < goal), (p.coefficients, goal))
        return n

    def test_reach_of_goals_of_any_size(self):
        source = random.Random(1211)
        goals = [0, 1, 2, 10 ** 900, GREAT - 1, GREAT, GREAT + 1] + \
            [10 ** power + less for power in range(0, 1000, 37) for less in (-1, 0, 1)]
        for degree in range(-1, 7):
            for greatest in (0, 1, 9, 10 ** 40, 10 ** 400):
                p = Polynomial(*[source.randint(0, greatest) for _ in range(degree)],
                               *[source.randint(1, max(1, greatest)) for _ in range(min(1, degree + 1))])
                self.assertEqual(p.degree, degree)
                for goal in goals:
                    self.check_reach(p, goal)

    def test_reach_beside_values(self):
        source = random.Random(1212)
        for degree in range(-1, 7):
            for greatest in (0, 1, 9, 10 ** 30, 10 ** 300):
                coefficients = [source.choice((0, source.randint(0, greatest))) for _ in range(degree)]
                p = Polynomial(*coefficients, *[1 + greatest for _ in range(min(1, degree + 1))])
                for digits in (1, 2, 5, 20, 99, 160, 333, 499, 998):
                    if digits * degree + len(str(greatest)) <= 999:
                        n = source.randint(10 ** (digits - 1), 10 ** digits)
                        worth = p(n)
                        told = [self.check_reach(p, goal) for goal in (max(worth - 1, 0), worth, worth + 1)]
                        if degree > 0:
                            self.assertEqual((told[1], told[2]), (n, n + 1))

    def test_reach_just_above_a_great_constant(self):
        for degree in range(1, 7):
            p = Polynomial(GREAT, *[0] * (degree - 1), 1)
            self.assertEqual([p.reach(GREAT + more) for more in (0, 1, 2, 2 ** degree, 2 ** degree + 1)],
                             [0, 1, 2, 2, 3])
            q = Polynomial(*[1] * degree, GREAT)
            self.assertEqual([q.reach(goal) for goal in (1, 2, GREAT, GREAT + degree, GREAT + degree + 1)],
                             [0, 1, 1, 1, 2])

    def test_reach_of_long_polynomials(self):
        source = random.Random(1213)
        for degree in (7, 13, 30, 75, 300):
            for p in (Polynomial(*[source.randint(0, 10 ** 20) for _ in range(degree)], 1),
                      Polynomial(*[0] * degree, 3), Polynomial(*[1] * (degree + 1))):
                for goal in (1, 2, 3, 4, 10 ** 30, 10 ** 500, GREAT, p(7), p(7) - 1, p(7) + 1):
                    self.check_reach(p, goal)

    def test_sums_and_products(self):
        every = some_coefficients()
        for one in every[:40]:
            for two in every[::3]:
                p, q = Polynomial(*one), Polynomial(*two)
                self.assertEqual((p + q).coefficients, sum_of(one, two))
                self.assertEqual((p * q).coefficients, product_of(one, two))
                self.assertEqual((p.coefficients, q.coefficients), (stripped(one), stripped(two)))
            for number in (0, 1, 2, 10 ** 30, GREAT):
                p = Polynomial(*one)
                for told in (p + number, number + p):
                    self.assertIsInstance(told, Polynomial)
                    self.assertEqual(told.coefficients, sum_of(one, (number,)))
                for told in (p * number, number * p):
                    self.assertIsInstance(told, Polynomial)
                    self.assertEqual(told.coefficients, product_of(one, (number,)))

    def test_powers(self):
        for told in [(), (1,), (0, 1), (3, 1, 2), (1, 1), (GREAT, 2)]:
            expected = (1,)
            for k in range(21):
                self.assertEqual((Polynomial(*told) ** k).coefficients, expected)
                expected = product_of(expected, told)
        p = Polynomial(3, 1)
        for value in odd_numbers() + [21, 22, p, Polynomial()]:
            with self.assertRaises(InvalidOperation):
                p ** value
        with self.assertRaises(InvalidOperation):
            Polynomial() ** GREAT

    def test_at(self):
        every = some_coefficients()
        for one in every[:30]:
            for two in every[::4]:
                told = Polynomial(*one).at(Polynomial(*two))
                self.assertIsInstance(told, Polynomial)
                for n in (0, 1, 2, 5, 10 ** 9):
                    self.assertEqual(worth(told.coefficients, n), worth(one, worth(two, n)))
        for value in odd_values() + [7, (1, 2), 0]:
            with self.assertRaises(InvalidOperation):
                Polynomial(3, 1).at(value)

    def test_other_values_beside_a_polynomial(self):
        p = Polynomial(3, 1)
        for value in odd_numbers():
            for call in (lambda one: p + one, lambda one: one + p, lambda one: p * one, lambda one: one * p):
                with self.assertRaises(InvalidOperation):
                    call(value)

    def test_equality(self):
        every = [(), (1,), (0, 1), (1, 1), (1, 1, 1), (GREAT,)]
        for one in every:
            for two in every:
                self.assertEqual(Polynomial(*one) == Polynomial(*two, 0), one == two)
                self.assertEqual(Polynomial(*one) != Polynomial(*two, 0), one != two)
            for value in odd_values() + [one, list(one), str(Polynomial(*one)), 1]:
                self.assertFalse(Polynomial(*one) == value)
                self.assertTrue(Polynomial(*one) != value)

    def test_texts(self):
        for told in some_coefficients():
            self.assertEqual(str(Polynomial(*told)), text_of(told))
        self.assertEqual([str(Polynomial(*told)) for told in [(), (1,), (0, 1), (0, 2), (1, 0, 1), (0, 0, 0, 12)]],
                         ["0", "1", "n", "2 n", "n^2 + 1", "12 n^3"])
        self.assertEqual(str(Polynomial(GREAT) ** 10), "1" + "0" * 9990)

    def test_errors(self):
        for value in odd_numbers():
            for call in (Polynomial, lambda one: Polynomial(1, one), lambda one: Polynomial(one, 0),
                         lambda one: Polynomial.of((one,)), lambda one: Polynomial.of((0, 1, one))):
                with self.assertRaises(InvalidOperation):
                    call(value)
        for value in odd_values() + [[1], "1", {0: 1}, 7, Polynomial(1)]:
            if not isinstance(value, tuple):
                with self.assertRaises(InvalidOperation):
                    Polynomial.of(value)

    def test_a_polynomial_never_changes(self):
        p = Polynomial(3, 1, 2)
        same = p
        p += 1
        p *= 2
        self.assertEqual((same.coefficients, p.coefficients), ((3, 1, 2), (8, 2, 4)))
        for name in ("coefficients", "degree"):
            with self.assertRaises(AttributeError):
                setattr(p, name, ())
        with self.assertRaises(TypeError):
            p[0] = 1


if __name__ == "__main__":
    unittest.main()

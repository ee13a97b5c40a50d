"""[32] to [34]: linear systems."""

import unittest
from itertools import combinations, product
from math import gcd
from random import Random

from checkwright.errors import InvalidCode, InvalidLinear, InvalidNumber, InvalidSlip, Stuck, TooMany
from checkwright.linear import (
    as_system, coefficient, how_many_by, how_many_weighted, is_linear, is_right_weighted, pairs_by, signs_at, step_of,
    weighted_sum,
)
from checkwright.systems import is_right, is_system
from tests.helper import Case, strange, wrong_codes, wrong_places, wrong_slip_kinds

REACHES = {"single": 0, "swap": 1, "jump": 2, "twin": 1, "jumptwin": 2}
BIG = 10 ** 29 + 319  # a prime
LINEAR = (7, 5, [1, 3, 6, 2], 4)


def wrong_linears():
    """What is no linear system, much of it almost LINEAR."""
    weights = [1, 3, 6, 2]
    return strange() + [
        (7, 5, weights), (7, 5, weights, 4, 0), [7, 5, weights, 4], (1, 1, [1, 1], 0), (0, 0, weights, 0),
        (-7, 5, weights, 4), (True, 5, weights, 4), (None, 5, weights, 4), ("7", 5, weights, 4), ([7], 5, weights, 4),
        (7, 1, weights, 4), (7, 0, weights, 4), (7, -5, weights, 4), (7, 8, weights, 4), (7, True, weights, 4),
        (7, None, weights, 4), (7, 5, [], 4), (7, 5, [1], 4), (7, 5, (1, 3), 4), (7, 5, {1: 1, 3: 3}, 4),
        (7, 5, [1, 0], 4), (7, 5, [0, 1, 2], 4), (7, 5, [1, 7], 4), (7, 5, [1, -1], 4), (7, 5, [1, True], 4),
        (7, 5, [False, 1], 4), (7, 5, [1, None], 4), (7, 5, [1, [1]], 4), (7, 5, ["1", 1], 4), (7, 5, 3, 4),
        (7, 5, weights, 7), (7, 5, weights, -1), (7, 5, weights, True), (7, 5, weights, None), (7, 5, weights, [4]),
        (7, 5, weights, False), (2, 2, [1, 2], 0), (2, 3, [1, 1], 0),
    ]


LINEARS = ("linear", InvalidLinear, wrong_linears())


def total_of(linear, code):
    return sum(weight * sign for weight, sign in zip(linear[2], code)) % linear[0]


def drawn(random, modulus, signs=None, places=None):
    signs = random.randint(2, modulus) if signs is None else signs
    places = random.randint(2, 4) if places is None else places
    return (modulus, signs, [random.randint(1, modulus - 1) for _ in range(places)], random.randrange(modulus))


def small_ones():
    """All linear systems of two places and a small modulus, and some others."""
    found = []
    for modulus in (2, 3, 4):
        for signs, first, second in product(range(2, modulus + 1), range(1, modulus), range(1, modulus)):
            found.append((modulus, signs, [first, second], (first + signs) % modulus))
    random = Random(320)
    found.extend(drawn(random, random.randint(2, 12), places=3) for _ in range(60))
    found.extend(drawn(random, random.randint(2, 7), places=4) for _ in range(20))
    return found


def slipped(kind, place, code, sign, other):
    """A number of these signs behind and ahead of a slip; the rest is as in the code."""
    ahead, behind = list(code), list(code)
    last = place + REACHES[kind]
    if kind in ("swap", "jump"):
        ahead[place], ahead[last], behind[place], behind[last] = sign, other, other, sign
    else:
        ahead[place] = ahead[last] = sign
        behind[place] = behind[last] = other
    return ahead, behind


class WhatIsRight(Case):
    def test_is_linear(self):
        good = [
            LINEAR, (2, 2, [1, 1], 1), (7, 7, [6, 6], 6), (7, 2, [1, 1], 0), (97, 10, [10, 1], 1), (4, 3, [2, 2], 3),
            (10 ** 29, 10 ** 29, [10 ** 29 - 1, 1], 10 ** 29 - 1), (101, 10, [3] * 100, 1), (101, 10, [3] * 120, 1),
        ]
        self.judges(is_linear, good, wrong_linears())

    def test_against_all_numbers(self):
        for linear in small_ones():
            modulus, signs, weights, total = linear
            for code in product(range(signs), repeat=len(weights)):
                self.assertEqual(weighted_sum(linear, list(code)), total_of(linear, code))
                self.assertIs(is_right_weighted(linear, list(code)), total_of(linear, code) == total)
        self.gives(4, weighted_sum, linear=LINEAR, code=[1, 2, 0, 2])
        self.gives(True, is_right_weighted, linear=LINEAR, code=[1, 2, 0, 2])
        self.gives(False, is_right_weighted, linear=LINEAR, code=[1, 2, 0, 3])

    def test_thirty_figures(self):
        random = Random(321)
        linear = drawn(random, BIG, places=100)
        code = [random.randrange(linear[1]) for _ in range(100)]
        with self.within_seconds():
            self.gives(total_of(linear, code), weighted_sum, linear=linear, code=code)
            self.gives(total_of(linear, code) == linear[3], is_right_weighted, linear=linear, code=code)
            self.gives(True, is_right_weighted, linear=(*linear[:3], total_of(linear, code)), code=code)

    def test_as_system(self):
        for linear in small_ones() + [(40, 40, [1, 39, 7, 3] * 10, 39)]:
            modulus, signs, weights, total = linear
            if signs < modulus or any(gcd(weight, modulus) > 1 for weight in weights):
                self.raises(Stuck, linear, as_system, linear=linear)
                continue
            system = self.run_it(as_system, linear=linear)
            tables = [[weight * sign % modulus for sign in range(signs)] for weight in weights]
            self.same(system, ((modulus,), tables, total))
            self.assertTrue(is_system(system))
            if modulus < 8:
                for code in product(range(signs), repeat=len(weights)):
                    self.assertIs(is_right(system, list(code)), is_right_weighted(linear, list(code)))
        self.gives(((4,), [[0, 1, 2, 3], [0, 3, 2, 1]], 1), as_system, linear=(4, 4, [1, 3], 1))
        for linear in [(4, 3, [1, 3], 1), (4, 4, [1, 2], 1), (4, 4, [2, 1], 1), (6, 6, [1, 5, 3], 0)]:
            self.raises(Stuck, linear, as_system, linear=linear)

    def test_errors(self):
        code = ("code", InvalidCode, wrong_codes(4, 5))
        for function in (weighted_sum, is_right_weighted):
            self.refuses(function, {"linear": LINEAR, "code": [0, 4, 1, 2]}, [LINEARS, code])
        self.refuses(as_system, {"linear": (7, 7, [1, 2], 3)}, [LINEARS])


class OneCoefficient(Case):
    def places(self, linear, kind):
        return range(len(linear[2]) - REACHES[kind])

    def test_against_all_slips(self):
        for linear in small_ones():
            modulus, signs, weights, _ = linear
            for kind in REACHES:
                for place in self.places(linear, kind):
                    wanted = []
                    for sign, other in combinations(range(signs), 2):
                        ahead, behind = slipped(kind, place, [signs - 1] * len(weights), sign, other)
                        if total_of(linear, ahead) == total_of(linear, behind):
                            wanted.append((sign, other))
                    told = {"linear": linear, "kind": kind, "place": place}
                    self.gives(wanted, pairs_by, **told)
                    self.gives(len(wanted), how_many_by, **told)

    def test_coefficients_and_steps(self):
        random = Random(330)
        for linear in small_ones() + [drawn(random, 10 ** 29, places=5), drawn(random, BIG, places=3)]:
            modulus, _, weights, _ = linear
            for kind, reach in REACHES.items():
                for place in self.places(linear, kind):
                    first, last = weights[place], weights[place + reach]
                    wanted = {"single": first, "swap": first - last, "jump": first - last, "twin": first + last}.get(
                        kind, first + last) % modulus
                    told = {"linear": linear, "kind": kind, "place": place}
                    self.gives(wanted, coefficient, **told)
                    self.gives(modulus // gcd(modulus, wanted), step_of, **told)

    def test_words(self):
        linear = (10, 10, [1, 3, 1, 9, 3], 0)
        for kind, wanted in [("single", [1, 3, 1, 9, 3]), ("swap", [8, 2, 2, 6]), ("jump", [0, 4, 8]),
                             ("twin", [4, 4, 0, 2]), ("jumptwin", [2, 2, 4])]:
            for place, one in enumerate(wanted):
                self.gives(one, coefficient, linear=linear, kind=kind, place=place)
        self.gives(1, step_of, linear=linear, kind="jump", place=0)
        self.gives(45, how_many_by, linear=linear, kind="jump", place=0)
        self.gives(list(combinations(range(10), 2)), pairs_by, linear=linear, kind="twin", place=2)

    def test_thirty_figures(self):
        even, half = 2 * BIG, BIG
        linear = (even, even, [1, even - 1, 3], 5)  # coefficients 2, even - 4, 0, 2, -2, 4
        with self.within_seconds():
            for kind, place, factor in [
                ("swap", 0, 2), ("swap", 1, even - 4), ("twin", 0, 0), ("twin", 1, 2), ("jump", 0, even - 2),
                ("jumptwin", 0, 4), ("single", 1, even - 1),
            ]:
                told = {"linear": linear, "kind": kind, "place": place}
                self.gives(factor, coefficient, **told)
                step = even // gcd(even, factor)
                self.gives(step, step_of, **told)
                if step == even:
                    self.gives(0, how_many_by, **told)
                    self.gives([], pairs_by, **told)
                    continue
                wanted = {half: half, 1: even * (even - 1) // 2}[step]
                self.gives(wanted, how_many_by, **told)
                with self.assertRaises(TooMany) as caught:
                    pairs_by(**told)
                self.same(caught.exception.value, wanted)
            few = (even, half + 3, [1, even - 1, 3], 5)
            self.gives([(0, half), (1, half + 1), (2, half + 2)], pairs_by, linear=few, kind="swap", place=0)
            self.gives(3, how_many_by, linear=few, kind="swap", place=0)
            none = (even, half, [1, even - 1, 3], 5)
            self.gives([], pairs_by, linear=none, kind="swap", place=0)
            self.gives(0, how_many_by, linear=none, kind="swap", place=0)

    def test_limit_of_pairs(self):
        for signs, step, many in [(63, 1, 1953), (64, 1, 2016), (4000, 2000, 2000), (4002, 2001, 2001)]:
            linear = (64, signs, [1, 1], 0) if step == 1 else (signs, signs, [1, signs - 1], 0)
            told = {"linear": linear, "kind": "swap", "place": 0}
            self.gives(many, how_many_by, **told)
            if many <= 2000:
                wanted = [(one, two) for one, two in combinations(range(signs), 2) if (two - one) % step == 0]
                self.gives(wanted, pairs_by, **told)
            else:
                with self.assertRaises(TooMany) as caught:
                    pairs_by(**told)
                self.same(caught.exception.value, many)

    def test_errors(self):
        for kind, reach in REACHES.items():
            for function in (coefficient, step_of, how_many_by, pairs_by):
                self.refuses(function, {"linear": LINEAR, "kind": kind, "place": 3 - reach}, [
                    LINEARS, ("kind", InvalidSlip, wrong_slip_kinds()),
                    ("place", InvalidNumber, wrong_places(4 - reach))])
        many = (64, 64, [1, 1, 1], 0)
        for function in (coefficient, step_of, how_many_by, pairs_by):
            for place in wrong_places(2) + [2]:
                self.raises(InvalidNumber, place, function, linear=many, kind="swap", place=place)
            for place in (0, 1, -1):
                self.raises(InvalidNumber, place, function, linear=(7, 5, [1, 2], 0), kind="jump", place=place)


class SignsThatCanStand(Case):
    def check(self, linear, code, place):
        modulus, signs, weights, total = linear
        wanted = [sign for sign in range(signs) if total_of(linear, [*code[:place], sign, *code[place + 1:]]) == total]
        self.gives(wanted, signs_at, linear=linear, code=code, place=place)
        step = modulus // gcd(modulus, weights[place])
        for one, two in zip(wanted, wanted[1:]):
            self.assertEqual(two - one, step)
        self.assertTrue(not wanted or wanted[0] < step)

    def test_against_all_signs(self):
        random = Random(340)
        for linear in small_ones():
            for _ in range(4):
                code = [random.randrange(linear[1]) for _ in linear[2]]
                for place in range(len(code)):
                    self.check(linear, code, place)
        for linear in [(10, 10, [2, 5], 0), (10, 10, [2, 5], 1), (12, 12, [4, 6, 9], 2), (12, 7, [4, 6, 9], 2)]:
            for code in product(range(linear[1]), repeat=len(linear[2])):
                for place in range(len(code)):
                    self.check(linear, list(code), place)

    def test_thirty_figures(self):
        random = Random(341)
        with self.within_seconds():
            for modulus in (BIG, 6 * 10 ** 28, 10 ** 29):
                linear = drawn(random, modulus, signs=modulus, places=100)
                linear[2][7] = modulus - 1
                code = [random.randrange(modulus) for _ in range(100)]
                found = signs_at(linear, code, 7)
                self.assertEqual(len(found), 1)
                self.same(total_of(linear, code[:7] + found + code[8:]), linear[3])
            double = (2 * BIG, 2 * BIG, [2, 1], 4)
            self.gives([2, BIG + 2], signs_at, linear=double, code=[5, 0], place=0)
            self.gives([], signs_at, linear=double, code=[5, 1], place=0)
            self.gives([2], signs_at, linear=(2 * BIG, BIG + 2, [2, 1], 4), code=[5, 0], place=0)
            self.gives([2, BIG + 2], signs_at, linear=(2 * BIG, BIG + 3, [2, 1], 4), code=[5, 0], place=0)
            self.gives([], signs_at, linear=(2 * BIG, 2, [2, 1], 4), code=[1, 0], place=0)

    def test_too_many(self):
        for signs, many in [(4000, 2000), (4001, 2001), (4002, 2001), (3999, 2000)]:
            linear = (8000, signs, [4000, 1], 0)
            if many == 2000:
                self.gives(list(range(0, signs, 2)), signs_at, linear=linear, code=[1, 0], place=0)
            else:
                with self.assertRaises(TooMany) as caught:
                    signs_at(linear, [1, 0], 0)
                self.same(caught.exception.value, many)
            self.gives([0], signs_at, linear=linear, code=[0, 1], place=1)
            self.gives([], signs_at, linear=linear, code=[0, 1], place=0)
        for signs, many in [(4000, 2000), (4001, 2000), (4002, 2001)]:
            linear = (8000, signs, [4000, 1], 4000)
            if many == 2000:
                self.gives(list(range(1, signs, 2)), signs_at, linear=linear, code=[0, 0], place=0)
            else:
                with self.assertRaises(TooMany) as caught:
                    signs_at(linear, [0, 0], 0)
                self.same(caught.exception.value, many)
        with self.assertRaises(TooMany) as caught:
            signs_at((2 * BIG, 2 * BIG, [BIG, 1], 0), [1, 0], 0)
        self.same(caught.exception.value, BIG)

    def test_how_many_weighted(self):
        for linear in small_ones():
            modulus, signs, weights, total = linear
            wanted = sum(total_of(linear, code) == total for code in product(range(signs), repeat=len(weights)))
            self.gives(wanted, how_many_weighted, linear=linear)
            if signs == modulus and any(gcd(weight, modulus) == 1 for weight in weights):
                self.assertEqual(wanted, signs ** (len(weights) - 1))
        for linear, wanted in [((10, 10, [2, 5], 1), 10), ((10, 10, [2, 4], 1), 0), ((10, 10, [2, 4], 2), 20),
                               ((4, 4, [2, 2, 2], 2), 32), ((4, 4, [2, 2, 2], 1), 0)]:
            self.gives(wanted, how_many_weighted, linear=linear)

    def test_modulus_and_places_of_hundred(self):
        random = Random(342)
        with self.within_seconds(20):
            for modulus, signs in [(100, 100), (97, 97), (100, 37), (99, 10), (97, 10)]:
                weights = [random.randint(1, modulus - 1) for _ in range(100)]
                if signs == modulus:
                    self.gives(signs ** 99, how_many_weighted, linear=(modulus, signs, weights, 3))
                else:
                    found = [how_many_weighted((modulus, signs, weights, total)) for total in range(0, modulus, 7)]
                    self.assertGreater(min(found), 0)
                    self.assertLess(max(found), signs ** 100)
            shared = (100, 100, [random.randrange(2, 100, 2) for _ in range(99)] + [2], 4)
            self.gives(2 * 100 ** 99, how_many_weighted, linear=shared)
            self.gives(0, how_many_weighted, linear=(*shared[:3], 5))
            every = (100, 37, [random.randint(1, 99) for _ in range(60)], 0)
            counts = [how_many_weighted((*every[:3], total)) for total in range(100)]
            self.assertEqual(sum(counts), 37 ** 60)
            self.gives(BIG ** 2, how_many_weighted, linear=(BIG, BIG, [5, BIG - 1, 9], 3))
            self.gives(4, how_many_weighted, linear=(BIG, 2, [1, BIG - 1, 2, BIG - 2], 0))

    def test_errors(self):
        wrongs = [LINEARS, ("code", InvalidCode, wrong_codes(4, 5)), ("place", InvalidNumber, wrong_places(4))]
        self.refuses(signs_at, {"linear": LINEAR, "code": [0, 4, 1, 2], "place": 3}, wrongs)
        self.refuses(how_many_weighted, {"linear": LINEAR}, [LINEARS])
        crowded = (8000, 8000, [4000, 1, 1], 0)
        for place in wrong_places(3):
            self.raises(InvalidNumber, place, signs_at, linear=crowded, code=[1, 0, 0], place=place)


if __name__ == "__main__":
    unittest.main()

"""[35] to [37]: perfect weights, the least that passes, powers."""

import unittest
from itertools import combinations, product
from math import gcd

from checkwright.errors import InvalidNumber, InvalidSlip
from checkwright.linear import how_many_by, is_linear, step_of
from checkwright.weights import (
    are_perfect, can_be_perfect, least_by, perfect_weights, power_system, steps_of_powers, two_weights,
)
from tests.helper import Case, strange, wrong_counts

KINDS = ["swap", "jump", "twin", "jumptwin"]
REACHES = {"single": 0, "swap": 1, "jump": 2, "twin": 1, "jumptwin": 2}
ALL_KINDS = [list(kinds) for many in range(5) for kinds in combinations(KINDS, many)]
BIG = 10 ** 29 + 319  # a prime

MODULUS = ("modulus", InvalidNumber, wrong_counts(2))
PLACES = ("places", InvalidNumber, wrong_counts(2) + [101, 102, 10 ** 29])
WRONG_KINDS = ("kinds", InvalidSlip, strange() + [
    "swap", ("swap",), ["single"], ["single", "swap"], ["jump", "swap"], ["swap", "swap"], ["twin", "jump"],
    ["jumptwin", "twin"], ["swap", "jump", "jumptwin", "twin"], ["swap", None], ["swap", 0], [["swap"]], {"swap": 1},
    ["Swap"], ["swap", "jump", "swap"], ["swap", "jump", "twin", "jumptwin", "jumptwin"], ["swap", True], [""],
    ["twins"],
])


def perfect_by_words(modulus, kinds, weights):
    """Whether no single slip and none of the kinds passes, by the sums of all signs."""
    signs = range(modulus)
    for kind in ["single", *kinds]:
        reach = REACHES[kind]
        for first, last in zip(weights, weights[reach:]):
            for x, y in combinations(signs, 2):
                if kind == "single":
                    ahead, behind = first * x, first * y
                elif kind in ("swap", "jump"):
                    ahead, behind = first * x + last * y, first * y + last * x
                else:
                    ahead, behind = (first + last) * x, (first + last) * y
                if (ahead - behind) % modulus == 0:
                    return False
    return True


def perfect_by_divisors(modulus, kinds, weights):
    """The same, by divisors."""
    factors = list(weights)
    for kind in kinds:
        for first, last in zip(weights, weights[REACHES[kind]:]):
            factors.append(first - last if kind in ("swap", "jump") else first + last)
    return all(gcd(factor, modulus) == 1 for factor in factors)


class PerfectWeights(Case):
    def test_are_perfect(self):
        for modulus in range(2, 9):
            for places in (2, 3, 4) if modulus < 6 else (2, 3):
                for weights in product(range(1, modulus), repeat=places):
                    for kinds in ALL_KINDS:
                        wanted = perfect_by_words(modulus, kinds, weights)
                        self.assertIs(are_perfect(modulus, kinds, list(weights)), wanted, (modulus, kinds, weights))

    def test_any_value(self):
        wrong = strange() + [
            5, (1, 2), [], [1], [3], {1: 2, 2: 1}, [1, 0], [0, 1], [1, 7], [7, 8], [8, 2], [1, -6], [-1, 2], [1, True],
            [True, 2], [1, None], [1, [2]], ["1", "2"], [1, 2, 0], [1, 2, 10 ** 29], [1, 1], [1, 2, 2],
        ]
        self.judges(are_perfect, [[1, 2], [2, 1], [6, 5, 6], [1, 3, 1, 3] * 30], wrong, modulus=7, kinds=["swap"])
        self.judges(are_perfect, [[1, 1], [1, 2, 1], [6, 6, 6]], wrong[:-2] + [[1, 6], [2, 2, 5]], modulus=7,
            kinds=["twin"])
        self.judges(are_perfect, [[1, 1], [1, 6], [3, 4, 3]], wrong[:-2], modulus=7, kinds=[])
        self.judges(are_perfect, [[1, 6], [1, 1, 2]], [[1, 1, 1], [1, 6, 1]], modulus=7, kinds=["jump"])
        self.judges(are_perfect, [[1, 6], [1, 6, 1]], [[1, 1, 6], [3, 6, 4]], modulus=7, kinds=["jumptwin"])
        self.judges(are_perfect, [[1, 1], [5, 1]], [[1, 2], [2, 1], [3, 1], [1, 5, 3], [4, 1]], modulus=6, kinds=[])

    def can_by_words(self, modulus, places, kinds):
        return any(perfect_by_divisors(modulus, kinds, weights) for weights in product(range(1, modulus),
            repeat=places))

    def check(self, modulus, places, kinds, can):
        told = {"modulus": modulus, "places": places, "kinds": kinds}
        self.gives(can, can_be_perfect, **told)
        weights = self.run_it(perfect_weights, **told)
        if not can:
            self.assertIsNone(weights)
            return
        self.assertIs(type(weights), list)
        self.assertEqual(len(weights), places)
        for weight in weights:
            self.same(weight, int(weight))
            self.assertTrue(0 < weight < modulus)
        self.assertTrue(perfect_by_divisors(modulus, kinds, weights))
        self.gives(True, are_perfect, modulus=modulus, kinds=kinds, value=weights)

    def test_against_all_weights(self):
        for modulus in range(2, 17):
            for places in (2, 3, 4) if modulus < 12 else (2, 3):
                for kinds in ALL_KINDS:
                    self.check(modulus, places, kinds, self.can_by_words(modulus, places, kinds))
        for modulus in (2, 3, 5):
            for places in (5, 6):
                for kinds in ALL_KINDS:
                    self.check(modulus, places, kinds, self.can_by_words(modulus, places, kinds))

    def test_two_three_and_five_alone_bar(self):
        for modulus in [2, 3, 5, 6, 7, 10, 15, 30, 49, 77, 35, 21, 14, 125, 27, 60, 700, 1001, 97, 385, 2310]:
            primes = [prime for prime in (2, 3, 5) if modulus % prime == 0]
            for kinds in ALL_KINDS:
                for places in (2, 3, 4, 7):
                    can = all(self.can_by_words(prime, places, kinds) for prime in primes)
                    self.check(modulus, places, kinds, can)

    def test_thirty_figures_and_hundred_places(self):
        with self.within_seconds():
            for modulus in (BIG, 7 * 10 ** 28 + 7, 10 ** 30 - 11):
                for prime in (2, 3, 5):
                    self.assertGreater(modulus % prime, 0)
                for kinds in ALL_KINDS:
                    self.check(modulus, 100, kinds, True)
            for modulus, kinds, can in [
                (3 * BIG, ["swap"], True), (3 * BIG, ["jump", "twin"], False), (3 * BIG, ["jump", "jumptwin"], False),
                (3 * BIG, ["twin", "jumptwin"], True), (3 * BIG, ["swap", "jumptwin"], True),
                (3 * BIG, ["swap", "jump"], False), (5 * BIG, KINDS, False), (5 * BIG, ["swap", "twin"], True),
                (5 * BIG, ["swap", "jump"], True), (2 * BIG, [], True), (2 * BIG, ["swap"], False),
                (10 ** 29, ["jump"], False), (10 ** 29, [], True), (15 * BIG, ["swap"], True),
                (5 ** 40, ["swap", "twin"], True), (2 ** 90 * 3 ** 3, [], True), (3 ** 60, ["twin"], True),
            ]:
                self.check(modulus, 100, kinds, can)
            self.check(2 * BIG, 2, ["jump", "jumptwin"], True)
            self.check(2 * BIG, 3, ["jump", "jumptwin"], False)
            self.check(3 * BIG, 2, ["swap", "twin"], False)
            self.check(5 * BIG, 2, KINDS, True)
            self.check(5 * BIG, 3, KINDS, False)

    def test_errors(self):
        self.refuses_first(are_perfect, {"modulus": 11, "kinds": ["swap", "twin"], "value": [1, 2]},
            [MODULUS, WRONG_KINDS])
        for function in (can_be_perfect, perfect_weights):
            for modulus, places in [(11, 4), (10, 4), (11, 100)]:
                self.refuses(function, {"modulus": modulus, "places": places, "kinds": ["swap", "jumptwin"]}, [
                    MODULUS, PLACES, WRONG_KINDS])


class TheLeastThatPasses(Case):
    def test_against_all_weights(self):
        for modulus in range(2, 25):
            prime_to = [weight for weight in range(1, modulus) if gcd(weight, modulus) == 1]
            least = min(
                how_many_by((modulus, modulus, [first, second], 0), "swap", 0)
                for first, second in product(prime_to, repeat=2))
            self.gives(least, least_by, modulus=modulus)
            self.assertEqual(least, 0 if modulus % 2 else modulus // 2)

    def check_two(self, modulus):
        told = self.run_it(two_weights, modulus=modulus)
        self.assertIs(type(told), tuple)
        self.assertEqual(len(told), 2)
        for weight in told:
            self.same(weight, int(weight))
            self.assertTrue(0 < weight < modulus)
            self.assertEqual(gcd(weight, modulus), 1)
        self.gives(how_many_by((modulus, modulus, list(told), 0), "swap", 0), least_by, modulus=modulus)

    def test_two_weights(self):
        for modulus in [*range(2, 120), BIG, 2 * BIG, 10 ** 29, 10 ** 30 - 1, 3 * 10 ** 28 + 3]:
            self.check_two(modulus)
        self.gives(5 * 10 ** 28, least_by, modulus=10 ** 29)
        self.gives(0, least_by, modulus=BIG)

    def test_errors(self):
        for function in (least_by, two_weights):
            self.refuses(function, {"modulus": 9}, [MODULUS])


class Powers(Case):
    def test_small_ones(self):
        for modulus in range(2, 14):
            for ratio in range(1, modulus):
                if gcd(ratio, modulus) > 1:
                    continue
                for signs, places, total in [(2, 2, 0), (modulus, 3, modulus - 1), (modulus, 6, 1)]:
                    weights = [ratio ** place % modulus for place in range(places)][::-1]
                    told = {"modulus": modulus, "signs": signs, "ratio": ratio, "places": places, "total": total}
                    self.gives((modulus, signs, weights, total), power_system, **told)
                    linear = power_system(**told)
                    self.assertTrue(is_linear(linear))
                    steps = self.run_it(steps_of_powers, modulus=modulus, ratio=ratio)
                    self.assertIs(type(steps), tuple)
                    for (kind, reach), step in zip(REACHES.items(), steps, strict=True):
                        for place in range(places - reach):
                            self.assertEqual(step_of(linear, kind, place), step)

    def test_words(self):
        self.gives((97, 97, 97, 97, 97), steps_of_powers, modulus=97, ratio=10)
        self.gives((11, 11, 1, 1, 11), steps_of_powers, modulus=11, ratio=10)
        self.gives((9, 1, 1, 9, 9), steps_of_powers, modulus=9, ratio=1)
        self.gives((2, 1, 1, 1, 1), steps_of_powers, modulus=2, ratio=1)
        self.gives((15, 15, 5, 5, 3), steps_of_powers, modulus=15, ratio=2)
        self.gives((10, 5, 5, 5, 1), steps_of_powers, modulus=10, ratio=3)
        self.gives((99, 10, [1, 10, 1, 10, 1], 98), power_system, modulus=99, signs=10, ratio=10, places=5, total=98)

    def test_read_as_figures(self):
        modulus, signs, weights, total = power_system(97, 10, 10, 9, 1)
        figures = [3, 1, 4, 1, 5, 9, 2, 6, 5]
        self.assertEqual(sum(one * weight for one, weight in zip(figures, weights)) % 97, 314159265 % 97)

    def test_thirty_figures_and_hundred_places(self):
        ratio = 10 ** 28 + 3
        with self.within_seconds():
            linear = power_system(BIG, BIG, ratio, 100, BIG - 1)
            self.same(linear, (BIG, BIG, [pow(ratio, 99 - place, BIG) for place in range(100)], BIG - 1))
            steps = steps_of_powers(BIG, ratio)
            factors = [1, ratio - 1, ratio ** 2 - 1, ratio + 1, ratio ** 2 + 1]
            self.same(steps, tuple(BIG // gcd(BIG, factor) for factor in factors))

    def test_errors(self):
        ratio = ("ratio", InvalidNumber, strange() + [0, 2, 4, 5, 6, 8, 10, 11, 13, -3, -7, 10 ** 29 + 1, "7", [7],
            (7,)])
        self.refuses(power_system, {"modulus": 10, "signs": 4, "ratio": 7, "places": 3, "total": 9}, [
            MODULUS, ("signs", InvalidNumber, wrong_counts(2) + [11, 12, 10 ** 29]), ratio, PLACES,
            ("total", InvalidNumber, strange() + [10, 11, -10, 10 ** 29, [0], "0"])])
        self.refuses(steps_of_powers, {"modulus": 10, "ratio": 7}, [MODULUS, ratio])
        for modulus in (2, 3, 9, 11):
            self.raises(InvalidNumber, modulus, power_system, modulus=modulus, signs=2, ratio=modulus, places=2,
                total=0)


if __name__ == "__main__":
    unittest.main()

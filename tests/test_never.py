"""[77] and [78]: what never comes, and exchanges between any two places."""

import unittest
from itertools import combinations, permutations
from math import gcd
from random import Random

from checkwright.classes import all_counts, can_come
from checkwright.errors import InvalidNumber, InvalidOrders, InvalidSystem, InvalidWish
from checkwright.least import how_many_pass
from checkwright.never import afar_system, barely_caught, is_quiet_afar, least_caught, passing_afar
from checkwright.systems import is_system, is_table
from tests.helper import Case, Group, strange, wrong_counts, wrong_one_wish_kind, wrong_orders, wrong_primes, wrong_systems

THREE = ((3,), [[0, 1, 2], [0, 2, 1], [1, 2, 0]], 1)
ORDERS = ("orders", InvalidOrders, wrong_orders())
SYSTEM = ("system", InvalidSystem, wrong_systems())
SMALL = [(2,), (3,), (4,), (2, 2), (5,), (6,), (2, 3), (3, 2)]
LARGER = [(7,), (8,), (2, 4), (4, 2), (2, 2, 2), (9,), (3, 3)]
LARGE = [(10,), (2, 6), (15,), (2, 2, 10), (40,), (39,), (3, 13), (4, 10), (6, 6), (2, 2, 2, 5)]


def passing_by_words(group, kind, first, second):
    row = group.differences(first, second) if kind == "swap" else group.sums(first, second)
    return len([pair for pair in combinations(row, 2) if pair[0] == pair[1]])


class WhatNeverComes(Case):
    def test_the_least_of_all_tables(self):
        for orders in SMALL:
            group = Group(orders)
            every = group.size * (group.size - 1) // 2
            for kind in ("swap", "twin"):
                first = list(range(group.size))
                found = {passing_by_words(group, kind, first, list(second)) for second in permutations(first)}
                caught = [every - many for many in found if many < every]
                self.gives(min(caught) if caught else None, least_caught, orders=orders)

    def test_the_least_of_all_counts(self):
        for orders in SMALL + LARGER:
            size = Group(orders).size
            every = size * (size - 1) // 2
            counts = [many for many in all_counts(orders) if many < every]
            self.assertEqual(least_caught(orders), every - max(counts) if counts else None)
            if size > 2:
                self.assertEqual(len({0, 1} & set(counts)), 1)
                self.assertEqual(every - least_caught(orders), (size - 2) * (size - 3) // 2 + (size % 2 == 0))
                for less in range(1, size // 2 + 1):
                    self.assertEqual(can_come(orders, [size - less, less]), gcd(size, less) > 1)

    def test_tables_that_come_to_it(self):
        for orders in SMALL[1:] + LARGER + LARGE:
            group = Group(orders)
            size = group.size
            self.gives(2 * size - 4 if size % 2 == 0 else 2 * size - 3, least_caught, orders=orders)
            for kind in ("swap", "twin"):
                with self.within_seconds():
                    found = self.run_it(barely_caught, orders=orders, kind=kind)
                self.assertIsInstance(found, tuple)
                first, second = found
                self.assertTrue(is_table(orders, first) and is_table(orders, second))
                passing = passing_by_words(group, kind, first, second)
                self.assertEqual(passing, how_many_pass(orders, kind, first, second))
                self.assertEqual(size * (size - 1) // 2 - passing, least_caught(orders))

    def test_two_signs(self):
        self.gives(None, least_caught, orders=(2,))
        for kind in ("swap", "twin"):
            self.gives(None, barely_caught, orders=(2,), kind=kind)
        self.raises(InvalidWish, "jump", barely_caught, orders=(2,), kind="jump")

    def test_errors(self):
        self.refuses(least_caught, {"orders": (3,)}, [ORDERS])
        self.refuses(barely_caught, {"orders": (3,), "kind": "twin"}, [ORDERS, ("kind", InvalidWish, wrong_one_wish_kind())])


def afar_by_words(group, system, place, other):
    """The pairs of signs whose exchange between two places leaves the sum of a number as it was."""
    found = []
    for one, two in combinations(range(group.size), 2):
        code = [0] * len(system[1])
        code[place], code[other] = one, two
        turned = list(code)
        turned[place], turned[other] = two, one
        if group.sum_of(system, code) == group.sum_of(system, turned):
            found.append((one, two))
    return found


class AnyTwoPlaces(Case):
    def test_against_all_pairs(self):
        random, found = Random(780), set()
        for orders in SMALL + [(7,), (2, 4)]:
            group = Group(orders)
            up = list(range(group.size))
            for places in (2, 3, 5):
                for system in (group.system(random, places), (orders, [up] * places, 0)):
                    quiet = True
                    for place, other in combinations(range(places), 2):
                        pairs = afar_by_words(group, system, place, other)
                        self.gives(pairs, passing_afar, system=system, place=place, other=other)
                        quiet = quiet and pairs == []
                    self.gives(quiet, is_quiet_afar, system=system)
                    self.assertFalse(quiet and places >= group.size)
                    found.add(quiet)
        self.assertEqual(found, {True, False})

    def test_one_bad_pair_of_places(self):
        tables = [[place * sign % 7 for sign in range(7)] for place in range(1, 7)]
        self.gives(True, is_quiet_afar, system=((7,), tables, 3))
        for place, other in combinations(range(6), 2):
            told = [list(table) for table in tables]
            told[other] = [(entry + 2) % 7 for entry in told[place]]
            self.gives(False, is_quiet_afar, system=((7,), told, 3))
            self.gives(list(combinations(range(7), 2)), passing_afar, system=((7,), told, 3), place=place, other=other)

    def test_primes(self):
        primes = [2, 3, 5, 7, 11, 13, 17, 19, 23, 29, 31, 37]
        for prime in primes:
            for places in sorted({2, 3, prime // 2, prime - 2, prime - 1, prime, prime + 1, 40, 10 ** 29}):
                if places < 2:
                    continue
                found = self.run_it(afar_system, prime=prime, places=places)
                if places >= prime:
                    self.assertIsNone(found)
                    continue
                self.assertTrue(is_system(found))
                self.assertEqual((found[0], len(found[1])), ((prime,), places))
                with self.within_seconds():
                    self.gives(True, is_quiet_afar, system=found)
        for number in range(-3, 60):
            if number in primes:
                self.run_it(afar_system, prime=number, places=2)
            else:
                self.raises(InvalidNumber, number, afar_system, prime=number, places=2)

    def test_forty_signs_and_places(self):
        for orders in [(40,), (2, 2, 10)]:
            group = Group(orders)
            system = group.system(Random(781), 40)
            with self.within_seconds():
                self.assertFalse(is_quiet_afar(system))
                found = passing_afar(system, 3, 39)
            row = group.differences(system[1][3], system[1][39])
            self.assertEqual(found, [pair for pair in combinations(range(40), 2) if row[pair[0]] == row[pair[1]]])

    def test_errors(self):
        places = strange() + [2, 3, 4, -3, 10 ** 29, [0], (0,), "0", "1"]
        self.refuses(passing_afar, {"system": THREE, "place": 0, "other": 2}, [
            SYSTEM, ("place", InvalidNumber, places), ("other", InvalidNumber, strange() + [0, 3, 4, -2, 10 ** 29, [1], "2"])])
        for place, other in [(1, 1), (1, 0), (0, 0), (0, 3)]:
            self.raises(InvalidNumber, other, passing_afar, system=THREE, place=place, other=other)
        self.refuses(is_quiet_afar, {"system": THREE}, [SYSTEM])
        self.refuses(afar_system, {"prime": 11, "places": 4}, [
            ("prime", InvalidNumber, wrong_primes(40, 41)), ("places", InvalidNumber, wrong_counts(2))])


if __name__ == "__main__":
    unittest.main()

"""[23] to [25]: what passes, and quiet systems."""

import unittest
from itertools import combinations, permutations, product
from math import prod
from random import Random

from checkwright.errors import InvalidNumber, InvalidOrders, InvalidSystem, InvalidWish
from checkwright.quiet import is_quiet, passing_counts, quiet_orders, quiet_system, quietest
from tests.helper import Case, Group, strange, wrong_counts, wrong_orders, wrong_systems, wrong_wish_kinds

ORDERS = ("orders", InvalidOrders, wrong_orders())
SYSTEM = ("system", InvalidSystem, wrong_systems())
PLACES = ("places", InvalidNumber, wrong_counts(2))
ALL_TO_TWELVE = [
    (2,), (3,), (4,), (2, 2), (5,), (6,), (2, 3), (3, 2), (7,), (8,), (2, 4), (4, 2), (2, 2, 2), (9,), (3, 3), (10,),
    (2, 5), (11,), (12,), (2, 6), (3, 4), (2, 2, 3), (6, 2),
]


def counts_by_sums(group, first, second):
    """Of how many pairs the swap passes, and the twin, by the sums ahead and behind."""
    pairs = list(combinations(range(group.size), 2))
    swaps = [(x, y) for x, y in pairs if group.add(first[x], second[y]) == group.add(first[y], second[x])]
    twins = [(x, y) for x, y in pairs if group.add(first[x], second[x]) == group.add(first[y], second[y])]
    return (len(swaps), len(twins))


def even_sum(group):
    return group.total(range(group.size)) == 0


class WhatPasses(Case):
    def test_against_all_pairs(self):
        random = Random(230)
        for orders in ALL_TO_TWELVE:
            group = Group(orders)
            for places in (2, 3, 6):
                system = group.system(random, places)
                wanted = [counts_by_sums(group, *two) for two in zip(system[1], system[1][1:])]
                self.gives(wanted, passing_counts, system=system)
                self.gives(all(swaps == 0 for swaps, _ in wanted), is_quiet, system=system)

    def test_against_all_numbers(self):
        for orders in [(2,), (3,), (4,), (2, 2)]:
            group = Group(orders)
            first = group.table(Random(231))
            for second in permutations(range(group.size)):
                system = (orders, [first, list(second), first], 1)
                found = []
                for place in (0, 1):
                    swaps, twins = 0, 0
                    for x, y in combinations(range(group.size), 2):
                        for rest in range(group.size):
                            there, back = [x, y], [y, x]
                            there.insert(2 - 2 * place, rest)
                            back.insert(2 - 2 * place, rest)
                            swaps += group.sum_of(system, there) == group.sum_of(system, back)
                            there, back = [x, x], [y, y]
                            there.insert(2 - 2 * place, rest)
                            back.insert(2 - 2 * place, rest)
                            twins += group.sum_of(system, there) == group.sum_of(system, back)
                    self.assertEqual((swaps % group.size, twins % group.size), (0, 0))
                    found.append((swaps // group.size, twins // group.size))
                self.gives(found, passing_counts, system=system)
                self.gives(found[0][0] == 0 and found[1][0] == 0, is_quiet, system=system)

    def test_classes(self):
        up = list(range(10))
        self.gives([(45, 5), (5, 45)], passing_counts, system=((10,), [up, up, [-one % 10 for one in up]], 3))
        self.gives([(45, 5)], passing_counts, system=((10,), [up, up], 3))
        self.gives([(5, 45)], passing_counts, system=((10,), [up, [-one % 10 for one in up]], 3))
        self.gives([(3, 0)], passing_counts, system=((3,), [[0, 1, 2], [2, 0, 1]], 0))

    def test_one_place_that_is_not_quiet(self):
        up, down = [0, 1, 2, 3, 4], [0, 4, 3, 2, 1]
        for at in range(4):
            tables = [[up, down][place % 2] for place in range(5)]
            self.gives(True, is_quiet, system=((5,), tables, 2))
            tables[at + 1:] = [[up, down][(place + 1) % 2] for place in range(at + 1, 5)]
            self.gives(False, is_quiet, system=((5,), tables, 2))
            self.gives([(10 if place == at else 0, 0 if place == at else 10) for place in range(4)], passing_counts,
                       system=((5,), tables, 2))

    def test_forty_signs_and_places(self):
        random = Random(232)
        for orders in [(40,), (2, 2, 10)]:
            group = Group(orders)
            system = group.system(random, 40)
            with self.within_seconds():
                found = passing_counts(system)
                self.assertIs(is_quiet(system), False)
            wanted = [counts_by_sums(group, *two) for two in zip(system[1], system[1][1:])]
            self.same(found, wanted)

    def test_errors(self):
        system = ((3,), [[0, 1, 2], [0, 2, 1]], 0)
        for function in (passing_counts, is_quiet):
            self.refuses(function, {"system": system}, [SYSTEM])


class AsFewAsCan(Case):
    def check(self, group, kinds, system):
        """That a system is one of the orders, with the least counts."""
        self.assertIs(type(system), tuple)
        orders, tables, total = system
        self.same(orders, group.orders)
        self.assertEqual(len(tables), len(kinds) + 1)
        for table in tables:
            self.same(sorted(table), list(range(group.size)))
        self.same(total, int(total))
        self.assertIn(total, range(group.size))
        least = 0 if even_sum(group) else 1
        for first, second, kind in zip(tables, tables[1:], kinds):
            self.assertEqual(counts_by_sums(group, first, second)[["swap", "twin"].index(kind)], least)

    def test_nothing_is_less(self):
        for orders in [(2,), (3,), (4,), (2, 2), (5,), (6,), (2, 3)]:
            group = Group(orders)
            plain = list(range(group.size))
            found = [counts_by_sums(group, plain, list(second)) for second in permutations(plain)]
            least = 0 if even_sum(group) else 1
            self.assertEqual((min(swaps for swaps, _ in found), min(twins for _, twins in found)), (least, least))

    def test_quietest(self):
        random = Random(240)
        for orders in ALL_TO_TWELVE + [(13,), (14,), (15,), (16,), (4, 4), (2, 2, 2, 2), (2, 8), (18,), (3, 6), (30,)]:
            group = Group(orders)
            for kinds in [["swap"], ["twin"], ["swap", "twin"], [random.choice(["swap", "twin"]) for _ in range(7)]]:
                self.check(group, kinds, self.run_it(quietest, orders=orders, kinds=kinds))

    def test_quiet_system(self):
        for orders in ALL_TO_TWELVE + [(14,), (16,), (2, 8), (3, 6), (30,), (5, 6)]:
            group = Group(orders)
            for places in (2, 3, 7):
                if even_sum(group):
                    system = self.run_it(quiet_system, orders=orders, places=places)
                    self.check(group, ["swap"] * (places - 1), system)
                    self.gives(True, is_quiet, system=system)
                else:
                    self.gives(None, quiet_system, orders=orders, places=places)

    def test_none_is_quiet(self):
        for orders in [(2,), (4,), (6,), (2, 3)]:
            group = Group(orders)
            for first, second in product([list(range(group.size))], permutations(range(group.size))):
                self.assertIs(is_quiet((orders, [first, list(second)], 0)), False)

    def test_forty_signs_and_places(self):
        random = Random(241)
        for orders in [(40,), (2, 20), (2, 2, 10), (39,), (2, 2, 2, 5)]:
            kinds = [random.choice(["swap", "twin"]) for _ in range(39)]
            with self.within_seconds():
                system = quietest(orders, kinds)
                quiet = quiet_system(orders, 40)
            self.check(Group(orders), kinds, system)
            if orders == (40,):
                self.assertIsNone(quiet)
            else:
                self.check(Group(orders), ["swap"] * 39, quiet)

    def test_errors(self):
        self.refuses(quietest, {"orders": (3,), "kinds": ["swap", "twin"]}, [
            ORDERS, ("kinds", InvalidWish, wrong_wish_kinds())])
        for orders in [(3,), (4,)]:
            self.refuses(quiet_system, {"orders": orders, "places": 3}, [ORDERS, PLACES])


def ordered_factors(number, parts):
    """All tuples of so many numbers from 2 on whose product is the number, in order."""
    if parts == 1:
        return [(number,)]
    return [
        (first, *rest) for first in range(2, number) if number % first == 0
        for rest in ordered_factors(number // first, parts - 1)
    ]


class WhichSizes(Case):
    def test_against_all_orders(self):
        for number in range(2, 65):
            wanted = None
            for parts in range(1, 8):
                for orders in ordered_factors(number, parts):
                    self.assertEqual(prod(orders), number)
                    if wanted is None and even_sum(Group(orders)):
                        wanted = orders
            self.gives(wanted, quiet_orders, number=number)

    def test_thirty_figures(self):
        odd = 10 ** 29 + 7
        self.gives((odd,), quiet_orders, number=odd)
        self.gives((2, 2 * odd), quiet_orders, number=4 * odd)
        self.gives((2, 4 * odd), quiet_orders, number=8 * odd)
        self.gives((2, 5 * 10 ** 28), quiet_orders, number=10 ** 29)
        self.gives(None, quiet_orders, number=2 * odd)
        self.gives((10 ** 30 - 1,), quiet_orders, number=10 ** 30 - 1)
        self.gives(None, quiet_orders, number=10 ** 30 - 2)

    def test_errors(self):
        self.refuses(quiet_orders, {"number": 6}, [("number", InvalidNumber, wrong_counts(2) + [1, 0, True])])
        for value in strange():
            self.raises(InvalidNumber, value, quiet_orders, number=value)


if __name__ == "__main__":
    unittest.main()

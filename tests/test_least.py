"""[26] to [28]: members of order two, the least number of pairs that pass, and the pairs."""

import unittest
from itertools import combinations, permutations, product
from random import Random

from checkwright.errors import InvalidOrders, InvalidTable, InvalidWish
from checkwright.least import best_tables, halves, how_many_pass, is_best, least_passing, passing_pairs, sum_of_all
from tests.helper import Case, Group, strange, wrong_one_wish_kind, wrong_orders, wrong_tables

ORDERS = ("orders", InvalidOrders, wrong_orders())
KIND = ("kind", InvalidWish, wrong_one_wish_kind())
SMALL = [(2,), (3,), (4,), (2, 2)]
MANY = SMALL + [
    (5,), (6,), (2, 3), (3, 2), (7,), (8,), (2, 4), (4, 2), (2, 2, 2), (9,), (3, 3), (10,), (5, 2), (12,), (2, 6),
    (6, 2), (2, 2, 3), (15,), (16,), (2, 2, 4), (4, 4), (2, 2, 2, 2), (18,), (3, 6), (3, 10), (2, 3, 4), (36,), (6, 6),
]
LARGE = [(40,), (2, 20), (2, 2, 10), (2, 2, 2, 5), (39,), (37,), (4, 10)]


def pairs_by_sums(group, kind, first, second):
    """The pairs x, y whose slips leave the sum as it is."""
    found = []
    for x, y in combinations(range(group.size), 2):
        if kind == "swap":
            same = group.add(first[x], second[y]) == group.add(first[y], second[x])
        else:
            same = group.add(first[x], second[x]) == group.add(first[y], second[y])
        if same:
            found.append((x, y))
    return found


def all_tables(group):
    return [list(table) for table in permutations(range(group.size))]


class OrderTwo(Case):
    def test_halves_and_sums(self):
        for orders in MANY + LARGE:
            group = Group(orders)
            found = [member for member in range(1, group.size) if group.add(member, member) == 0]
            self.gives(found, halves, orders=orders)
            self.assertEqual(len(found), 2 ** len([order for order in orders if order % 2 == 0]) - 1)
            total = group.total(range(group.size))
            self.gives(total, sum_of_all, orders=orders)
            self.assertEqual(total, found[0] if len(found) == 1 else 0)

    def test_words(self):
        self.gives([1], halves, orders=(2,))
        self.gives([], halves, orders=(3,))
        self.gives([1, 2, 3], halves, orders=(2, 2))
        self.gives([2, 12, 14], halves, orders=(6, 4))
        self.gives(3, sum_of_all, orders=(2, 3))
        self.gives(1, sum_of_all, orders=(3, 2))

    def test_errors(self):
        for function in (halves, sum_of_all, least_passing):
            self.refuses(function, {"orders": (2, 3)}, [ORDERS])


class TheLeast(Case):
    def test_against_all_tables(self):
        for orders in SMALL:
            group = Group(orders)
            for kind in ("swap", "twin"):
                pairs = list(product(all_tables(group), repeat=2))
                least = min(len(pairs_by_sums(group, kind, *two)) for two in pairs)
                self.gives(least, least_passing, orders=orders)
                for two in pairs:
                    best = len(pairs_by_sums(group, kind, *two)) == least
                    self.assertIs(is_best(orders, kind, two), best)
        for orders in [(5,), (6,), (2, 3), (3, 2)]:
            group = Group(orders)
            first = group.table(Random(270))
            for kind in ("swap", "twin"):
                counts = {}
                for second in all_tables(group):
                    counts[tuple(second)] = len(pairs_by_sums(group, kind, first, second))
                least = min(counts.values())
                self.gives(least, least_passing, orders=orders)
                for second, many in counts.items():
                    self.assertIs(is_best(orders, kind, (first, list(second))), many == least)

    def test_one_exactly_if_one_order_is_even(self):
        for orders in MANY + LARGE:
            evens = [order for order in orders if order % 2 == 0]
            self.gives(1 if len(evens) == 1 else 0, least_passing, orders=orders)

    def check_best(self, orders):
        group = Group(orders)
        least = 0 if group.total(range(group.size)) == 0 else 1
        for kind in ("swap", "twin"):
            told = self.run_it(best_tables, orders=orders, kind=kind)
            self.assertIs(type(told), tuple)
            self.assertEqual(len(told), 2)
            for table in told:
                self.same(sorted(table), list(range(group.size)))
            self.assertEqual(len(pairs_by_sums(group, kind, *told)), least)
            self.gives(True, is_best, orders=orders, kind=kind, value=told)

    def test_best_tables(self):
        for orders in MANY:
            self.check_best(orders)

    def test_forty_members(self):
        for orders in LARGE:
            with self.within_seconds(5):
                self.check_best(orders)

    def test_any_value(self):
        first, second = [1, 2, 0], [0, 2, 1]
        wrong = [(bad, second) for bad in wrong_tables(3)] + [(first, bad) for bad in wrong_tables(3)]
        self.judges(is_best, [(first, second)], strange() + wrong + [
            (first, first), [first, second], (first,), (first, second, first), first, ((first, second),),
            ([1, 2, 0, 3], [0, 2, 1, 3]), ([0, 1], [1, 0]),
        ], orders=(3,), kind="swap")
        self.judges(is_best, [(first, first), (second, second)], strange() + wrong + [(first, second)], orders=(3,),
            kind="twin")

    def test_errors(self):
        self.refuses(best_tables, {"orders": (4,), "kind": "twin"}, [ORDERS, KIND])
        self.refuses_first(is_best, {"orders": (3,), "kind": "swap", "value": ([0, 1, 2], [0, 2, 1])}, [ORDERS, KIND])


class Pairs(Case):
    def check(self, group, first, second):
        for kind in ("swap", "twin"):
            found = pairs_by_sums(group, kind, first, second)
            given = {"orders": group.orders, "kind": kind, "first": first, "second": second}
            self.gives(found, passing_pairs, **given)
            self.gives(len(found), how_many_pass, **given)
            row = group.differences(first, second) if kind == "swap" else group.sums(first, second)
            times = [row.count(member) for member in range(group.size)]
            self.assertEqual(len(found), sum(many * (many - 1) // 2 for many in times))

    def test_against_all_sums(self):
        for orders in [(2,), (3,)]:
            group = Group(orders)
            for first, second in product(all_tables(group), repeat=2):
                self.check(group, first, second)
        random = Random(280)
        for orders in MANY:
            group = Group(orders)
            for _ in range(3):
                self.check(group, group.table(random), group.table(random))
            up = list(range(group.size))
            self.check(group, up, up)
            self.check(group, up, [group.neg(member) for member in up])

    def test_forty_members(self):
        random = Random(281)
        for orders in LARGE:
            group = Group(orders)
            with self.within_seconds():
                self.check(group, group.table(random), group.table(random))

    def test_errors(self):
        wrong = wrong_tables(3)
        for function in (passing_pairs, how_many_pass):
            self.refuses(function, {"orders": (3,), "kind": "swap", "first": [0, 1, 2], "second": [2, 1, 0]}, [
                ORDERS, KIND, ("first", InvalidTable, wrong), ("second", InvalidTable, wrong)])


if __name__ == "__main__":
    unittest.main()

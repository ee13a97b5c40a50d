"""[79] to [81]: both kinds quiet, how many tables and systems, and told numbers at each place."""

import unittest
from itertools import combinations_with_replacement, permutations, product
from math import factorial, gcd
from random import Random

from checkwright.classes import all_counts
from checkwright.errors import InvalidNumber, InvalidOrders, InvalidRow, InvalidWish, Stuck
from checkwright.quiet import passing_counts
from checkwright.systems import is_system
from checkwright.ways import both_quiet, how_many_next, how_many_systems, system_passing
from tests.helper import (
    Case, Group, strange, wrong_counts, wrong_orders, wrong_rows, wrong_wish_kinds, wrong_wish_lists,
)

ORDERS = ("orders", InvalidOrders, wrong_orders())
SMALL = [(2,), (3,), (4,), (2, 2), (5,), (6,), (2, 3)]


class BothQuiet(Case):
    def test_where_there_is_one(self):
        for orders in [(5,), (7,), (5, 5), (11,), (25,), (35,), (5, 7), (37,), (7, 5)]:
            for places in (2, 3, 4, 7, 40):
                with self.within_seconds():
                    system = self.run_it(both_quiet, orders=orders, places=places)
                self.assertTrue(is_system(system))
                self.assertEqual((system[0], len(system[1])), (orders, places))
                self.assertEqual(passing_counts(system), [(0, 0)] * (places - 1))

    def test_where_there_is_none(self):
        for orders in [(2,), (3,), (4,), (6,), (8,), (9,), (10,), (27,), (2, 3), (9, 2), (2, 2, 3), (3, 3, 2), (6, 5), (2, 6), (6, 3), (5, 3, 5)]:
            for places in (2, 3, 40):
                self.gives(None, both_quiet, orders=orders, places=places)

    def test_where_it_is_not_told(self):
        for orders in [(2, 2), (3, 3), (2, 4), (2, 2, 2), (4, 4), (2, 2, 5), (6, 6), (3, 6, 2), (5, 3, 3), (2, 3, 2, 3)]:
            for places in (2, 3, 40):
                self.raises(Stuck, orders, both_quiet, orders=orders, places=places)
            for places in wrong_counts(2):
                self.raises(InvalidNumber, places, both_quiet, orders=orders, places=places)

    def test_all_tables_of_small_groups(self):
        for orders in SMALL[1:]:
            group = Group(orders)
            first = list(range(group.size))
            found = False
            for second in permutations(first):
                rows = (group.differences(first, second), group.sums(first, second))
                found = found or all(len(set(row)) == group.size for row in rows)
            if gcd(group.size, 6) == 1:
                self.assertTrue(found)
            elif orders != (2, 2):
                self.assertFalse(found)

    def test_errors(self):
        self.refuses(both_quiet, {"orders": (5,), "places": 2}, [ORDERS, ("places", InvalidNumber, wrong_counts(2))])


class HowMany(Case):
    def test_against_all_tables(self):
        random = Random(800)
        for orders in SMALL:
            group = Group(orders)
            first = group.table(random)
            by_differences, by_sums = {}, {}
            for second in permutations(range(group.size)):
                for found, row in ((by_differences, group.differences(first, second)), (by_sums, group.sums(first, second))):
                    row = tuple(sorted(row))
                    found[row] = found.get(row, 0) + 1
            self.assertEqual(by_differences, by_sums)
            total = 0
            for row in combinations_with_replacement(range(group.size), group.size):
                mixed = random.sample(row, group.size)
                many = by_differences.get(row, 0)
                self.gives(many, how_many_next, orders=orders, row=mixed)
                self.assertEqual(many == 0, group.total(row) != 0)
                total += many
            self.assertEqual(total, factorial(group.size))

    def test_systems_against_all(self):
        random = Random(801)
        for orders in [(2,), (3,), (4,), (2, 2)]:
            group = Group(orders)
            tables = [list(table) for table in permutations(range(group.size))]
            for many in (1, 2):
                for _ in range(6):
                    wishes = [(random.choice(["swap", "twin"]), group.even_row(random)) for _ in range(many)]
                    if random.random() < 0.2:
                        wishes[-1][1][0] = group.add(wishes[-1][1][0], 1)
                    first, found = group.table(random), 0
                    for told in product(tables, repeat=many):
                        fits = True
                        for (kind, row), one, two in zip(wishes, (first, *told), told):
                            here = group.differences(one, two) if kind == "swap" else group.sums(one, two)
                            fits = fits and sorted(here) == sorted(row)
                        found += fits
                    self.gives(found, how_many_systems, orders=orders, wishes=wishes)

    def test_words(self):
        self.gives(1, how_many_next, orders=(7,), row=[3] * 7)
        self.gives(133, how_many_next, orders=(7,), row=[6, 5, 4, 3, 2, 1, 0])
        self.gives(0, how_many_next, orders=(7,), row=[0, 0, 0, 0, 0, 0, 1])
        self.gives(0, how_many_systems, orders=(3,), wishes=[("swap", [0, 1, 2]), ("twin", [0, 0, 1])])
        self.gives(9, how_many_systems, orders=(3,), wishes=[("swap", [0, 1, 2]), ("twin", [2, 0, 1])])

    def test_seven_signs_and_forty_wishes(self):
        random = Random(802)
        group = Group((7,))
        rows = [group.even_row(random) for _ in range(40)]
        with self.within_seconds():
            total = 1
            for row in rows:
                many = how_many_next((7,), row)
                self.assertGreater(many, 0)
                total *= many
            found = how_many_systems((7,), [(random.choice(["swap", "twin"]), row) for row in rows])
        self.assertEqual(found, total)

    def test_errors(self):
        self.refuses(how_many_next, {"orders": (3,), "row": [0, 1, 2]}, [ORDERS, ("row", InvalidRow, wrong_rows(3))])
        self.refuses(how_many_systems, {"orders": (3,), "wishes": [("swap", [0, 1, 2])]}, [
            ORDERS, ("wishes", InvalidWish, wrong_wish_lists(3, 1) + [[]])])


def wrong_numbers():
    """What is no list of two counts."""
    return strange() + [
        [], [1], [1, 1, 1], (1, 1), [1, -1], [-1, 1], [1, True], [False, 1], [1, None], [1, "1"], [[1], 1], [1, [1]], {1: 1, 2: 2}, 2, "11",
        [[1, 1]],
    ]


class ToldNumbers(Case):
    def check(self, orders, kinds, numbers, counts):
        found = self.run_it(system_passing, orders=orders, kinds=kinds, numbers=numbers)
        if not all(number in counts for number in numbers):
            self.assertIsNone(found)
            return
        self.assertTrue(is_system(found))
        self.assertEqual((found[0], len(found[1])), (orders, len(kinds) + 1))
        told = [pair[("swap", "twin").index(kind)] for pair, kind in zip(passing_counts(found), kinds)]
        self.assertEqual(told, numbers)

    def test_all_small_ones(self):
        for orders in SMALL:
            group = Group(orders)
            first = list(range(group.size))
            for kind in ("swap", "twin"):
                counts = set()
                for second in permutations(first):
                    row = group.differences(first, second) if kind == "swap" else group.sums(first, second)
                    counts.add(sum(row.count(member) - 1 for member in row) // 2)
                for number in range(group.size ** 2):
                    self.check(orders, [kind], [number], counts)

    def test_several_places(self):
        random = Random(810)
        for orders in SMALL + [(7,), (8,), (2, 4), (2, 2, 2), (9,), (3, 3)]:
            counts = all_counts(orders)
            for many in (2, 3, 39):
                kinds = [random.choice(["swap", "twin"]) for _ in range(many)]
                numbers = [random.choice(counts) for _ in range(many)]
                with self.within_seconds():
                    self.check(orders, kinds, numbers, counts)
                    missing = [number for number in range(40) if number not in counts]
                    numbers[random.randrange(many)] = random.choice(missing + [10 ** 30 - 1])
                    self.check(orders, kinds, numbers, counts)

    def test_errors(self):
        self.refuses(system_passing, {"orders": (3,), "kinds": ["swap", "twin"], "numbers": [0, 3]}, [
            ORDERS, ("kinds", InvalidWish, wrong_wish_kinds()), ("numbers", InvalidNumber, wrong_numbers())])
        self.raises(InvalidNumber, bad := [0, -1], system_passing, orders=(2,), kinds=["swap", "swap"], numbers=bad)


if __name__ == "__main__":
    unittest.main()

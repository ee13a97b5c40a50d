"""[29] to [31]: sizes of rows, and which numbers of pairs can pass."""

import unittest
from itertools import combinations_with_replacement, permutations
from random import Random

from checkwright.classes import (
    all_counts, all_sizes, can_come, is_with, members_for, sizes_of, tables_passing, tables_with,
)
from checkwright.errors import InvalidNumber, InvalidOrders, InvalidRow, InvalidWish
from tests.helper import Case, Group, strange, wrong_counts, wrong_one_wish_kind, wrong_orders, wrong_rows, wrong_tables

ORDERS = ("orders", InvalidOrders, wrong_orders())
KIND = ("kind", InvalidWish, wrong_one_wish_kind())
BY_TABLES = [(2,), (3,), (4,), (2, 2), (5,), (6,), (2, 3), (3, 2)]
TO_NINE = BY_TABLES + [(7,), (8,), (2, 4), (4, 2), (2, 2, 2), (9,), (3, 3)]


def sizes_in(row):
    return sorted([row.count(member) for member in set(row)], reverse=True)


def pairs_in(sizes):
    return sum(many * (many - 1) // 2 for many in sizes)


def row_of(group, kind, first, second):
    return group.differences(first, second) if kind == "swap" else group.sums(first, second)


def partitions(number, most=None):
    """All descending lists of numbers from 1 on that add up to a number."""
    if number == 0:
        return [[]]
    most = number if most is None else min(most, number)
    return [[first] + rest for first in range(1, most + 1) for rest in partitions(number - first, first)]


def sizes_by_tables(group, kind):
    """The sizes of the rows of a first table and of all others."""
    first = group.table(Random(290))
    found = {tuple(sizes_in(row_of(group, kind, first, second))) for second in permutations(range(group.size))}
    return sorted(list(sizes) for sizes in found)


def sizes_by_rows(group):
    """The sizes of all rows, in whatever order of their members, that sum to nought."""
    rows = combinations_with_replacement(range(group.size), group.size)
    return sorted(list(sizes) for sizes in {tuple(sizes_in(row)) for row in rows if group.total(row) == 0})


def members_by_words(group, sizes):
    for members in permutations(range(group.size), len(sizes)):
        taken = [member for member, many in zip(members, sizes) for _ in range(many)]
        if group.total(taken) == 0:
            return list(members)
    return None


def wrong_sizes():
    """What are no sizes of four members."""
    return strange() + [
        4, (4,), [], [3], [5], [2, 1], [1, 1, 2], [1, 2, 1], [1, 3], [4, 0], [3, 1, 0], [2, 2, 0], [5, -1],
        [2, 1, True], [True, True, True, True], [2, 2, None], [[4]], ["4"], [2, 1, 1, 1], {4: 1}, [4, 4], (2, 2),
        [3, True],
    ]


class Sizes(Case):
    def test_sizes_of(self):
        random = Random(291)
        for orders in TO_NINE + [(10,), (2, 20)]:
            group = Group(orders)
            for _ in range(5):
                for few in (range(group.size), random.sample(range(group.size), 2)):
                    row = random.choices(few, k=group.size)
                    self.gives(sizes_in(row), sizes_of, orders=orders, row=row)
            self.gives([group.size], sizes_of, orders=orders, row=[1] * group.size)
            self.gives([1] * group.size, sizes_of, orders=orders, row=list(range(group.size)))
        self.gives([2, 2, 1], sizes_of, orders=(5,), row=[4, 0, 0, 1, 4])

    def test_against_all_tables(self):
        for orders in BY_TABLES:
            group = Group(orders)
            for kind in ("swap", "twin"):
                found = sizes_by_tables(group, kind)
                self.gives(found, all_sizes, orders=orders)
                self.gives(sorted({pairs_in(sizes) for sizes in found}), all_counts, orders=orders)

    def test_against_all_rows(self):
        for orders in TO_NINE:
            group = Group(orders)
            found = sizes_by_rows(group)
            self.gives(found, all_sizes, orders=orders)
            self.gives(sorted({pairs_in(sizes) for sizes in found}), all_counts, orders=orders)
            for sizes in partitions(group.size):
                self.gives(sizes in found, can_come, orders=orders, sizes=sizes)

    def test_words(self):
        for orders in TO_NINE:
            group = Group(orders)
            self.gives(True, can_come, orders=orders, sizes=[group.size])
            self.gives(group.total(range(group.size)) == 0, can_come, orders=orders, sizes=[1] * group.size)
            self.gives(False, can_come, orders=orders, sizes=[group.size - 1, 1])

    def test_errors(self):
        self.refuses(sizes_of, {"orders": (3,), "row": [1, 1, 2]}, [ORDERS, ("row", InvalidRow, wrong_rows(3))])
        sizes = ("sizes", InvalidRow, wrong_sizes())
        for function in (can_come, members_for):
            self.refuses(function, {"orders": (4,), "sizes": [2, 1, 1]}, [ORDERS, sizes])
            self.refuses(function, {"orders": (4,), "sizes": [3, 1]}, [ORDERS, sizes])
        for function in (all_sizes, all_counts):
            self.refuses(function, {"orders": (4,)}, [ORDERS])
        for many in ([41], [39], [20, 19], [10 ** 29]):
            self.raises(InvalidRow, many, can_come, orders=(40,), sizes=many)


class MembersAndTables(Case):
    def test_members_for(self):
        for orders in BY_TABLES + [(7,), (8,), (2, 4), (2, 2, 2)]:
            group = Group(orders)
            for sizes in partitions(group.size):
                self.gives(members_by_words(group, sizes), members_for, orders=orders, sizes=sizes)
        for orders in [(9,), (3, 3)]:
            group = Group(orders)
            for sizes in sizes_by_rows(group):
                self.gives(members_by_words(group, sizes), members_for, orders=orders, sizes=sizes)

    def check_tables(self, group, kind, sizes, told):
        self.assertIs(type(told), tuple)
        self.assertEqual(len(told), 2)
        for table in told:
            self.same(sorted(table), list(range(group.size)))
        self.assertEqual(sizes_in(row_of(group, kind, *told)), sizes)

    def test_tables_with(self):
        for orders in TO_NINE:
            group = Group(orders)
            come = sizes_by_rows(group)
            for sizes in partitions(group.size):
                for kind in ("swap", "twin"):
                    given = {"orders": orders, "kind": kind, "sizes": sizes}
                    if sizes in come:
                        told = self.run_it(tables_with, **given)
                        self.check_tables(group, kind, sizes, told)
                        self.gives(True, is_with, **given, value=told)
                    else:
                        self.gives(None, tables_with, **given)

    def test_is_with(self):
        for orders in [(2,), (3,), (4,), (2, 2), (5,)]:
            group = Group(orders)
            first = group.table(Random(300))
            for second in permutations(range(group.size)):
                for kind in ("swap", "twin"):
                    found = sizes_in(row_of(group, kind, first, second))
                    for sizes in partitions(group.size):
                        self.assertIs(is_with(orders, kind, sizes, (first, list(second))), sizes == found)

    def test_any_value(self):
        first, second = [1, 2, 0], [0, 2, 1]
        wrong = [(bad, second) for bad in wrong_tables(3)] + [(first, bad) for bad in wrong_tables(3)]
        others = [[first, second], (first,), (first, second, first), first, ((first, second),), ([0, 1], [1, 0])]
        told = {"orders": (3,), "kind": "swap", "sizes": [1, 1, 1]}
        self.judges(is_with, [(first, second)], strange() + wrong + others + [(first, first)], **told)
        self.judges(is_with, [(first, first)], strange() + others + [(first, second)], **{**told, "sizes": [3]})
        self.judges(is_with, [], strange() + others + [(first, second), (first, first)], **{**told, "sizes": [2, 1]})
        self.judges(is_with, [(first, second)], [(first, first)], **{**told, "kind": "twin", "sizes": [3]})

    def test_errors(self):
        told = {"orders": (4,), "kind": "twin", "sizes": [2, 1, 1]}
        wrongs = [ORDERS, KIND, ("sizes", InvalidRow, wrong_sizes())]
        self.refuses(tables_with, told, wrongs)
        self.refuses(tables_with, {**told, "sizes": [3, 1]}, wrongs)
        self.refuses_first(is_with, {**told, "value": ([0, 1, 2, 3], [0, 2, 3, 1])}, wrongs)
        self.refuses_first(is_with, {**told, "sizes": [3, 1], "value": None}, wrongs)


class Numbers(Case):
    def test_tables_passing(self):
        for orders in TO_NINE:
            group = Group(orders)
            counts = {pairs_in(sizes) for sizes in sizes_by_rows(group)}
            for number in [*range(group.size * (group.size - 1) // 2 + 3), 10 ** 29]:
                for kind in ("swap", "twin"):
                    given = {"orders": orders, "kind": kind, "number": number}
                    if number not in counts:
                        self.gives(None, tables_passing, **given)
                        continue
                    told = self.run_it(tables_passing, **given)
                    self.check_two(group, told)
                    self.assertEqual(pairs_in(sizes_in(row_of(group, kind, *told))), number)

    def check_two(self, group, told):
        self.assertIs(type(told), tuple)
        self.assertEqual(len(told), 2)
        for table in told:
            self.same(sorted(table), list(range(group.size)))

    def test_size_nine_within_seconds(self):
        for orders in [(8,), (2, 2, 2), (9,), (3, 3)]:
            with self.within_seconds(5):
                all_sizes(orders)
                counts = all_counts(orders)
                for sizes in partitions(Group(orders).size):
                    members_for(orders, sizes)
                    tables_with(orders, "swap", sizes)
                for number in range(40):
                    self.assertIs(tables_passing(orders, "twin", number) is None, number not in counts)

    def test_errors(self):
        number = ("number", InvalidNumber, wrong_counts(0))
        for good in (2, 3):
            self.refuses(tables_passing, {"orders": (4,), "kind": "twin", "number": good}, [ORDERS, KIND, number])


if __name__ == "__main__":
    unittest.main()

"""[14] to [17]: rows of differences and of sums."""

import unittest
from itertools import permutations, product
from random import Random

from checkwright.errors import InvalidOrders, InvalidRow, InvalidTable, Uneven
from checkwright.rows import (
    are_tables_of, by_signs, differences, is_next, is_next_by_sums, next_by_sums, next_table, row_can_come, sums, tables_of,
)
from tests.helper import Case, Group, strange, wrong_orders, wrong_rows, wrong_tables

SMALL = [(2,), (3,), (4,), (2, 2)]
ORDERS = ("orders", InvalidOrders, wrong_orders())
TABLE = ("table", InvalidTable, wrong_tables(3))
ROW = ("row", InvalidRow, wrong_rows(3))


def all_rows(group):
    return [list(row) for row in product(range(group.size), repeat=group.size)]


def all_tables(group):
    return [list(table) for table in permutations(range(group.size))]


class DifferencesAndSums(Case):
    def test_small_ones(self):
        for orders in SMALL:
            group = Group(orders)
            for first, second in product(all_tables(group), repeat=2):
                self.same(differences(orders, first, second), group.differences(first, second))
                self.same(sums(orders, first, second), group.sums(first, second))

    def test_drawn_ones(self):
        random = Random(14)
        for orders in [(10,), (2, 5), (40,), (2, 2, 10), (3, 13)]:
            group = Group(orders)
            first, second = group.table(random), group.table(random)
            self.gives(group.differences(first, second), differences, orders=orders, first=first, second=second)
            self.gives(group.sums(first, second), sums, orders=orders, first=first, second=second)
            self.gives([0] * group.size, differences, orders=orders, first=first, second=first)

    def test_errors(self):
        wrong = wrong_tables(3)
        for function in (differences, sums):
            self.refuses(function, {"orders": (3,), "first": [0, 1, 2], "second": [2, 1, 0]}, [
                ORDERS, ("first", InvalidTable, wrong), ("second", InvalidTable, wrong)])


class TablesOfARow(Case):
    def check(self, group, row):
        told = self.run_it(tables_of, orders=group.orders, row=row)
        self.assertIs(type(told), tuple)
        first, second = told
        for table in told:
            self.assertIs(type(table), list)
            self.assertEqual(sorted(table), list(range(group.size)))
        self.same(group.differences(first, second), row)
        self.gives(True, are_tables_of, orders=group.orders, row=row, value=told)

    def test_every_row_of_small_groups(self):
        for orders in SMALL + [(5,)]:
            group = Group(orders)
            for row in all_rows(group):
                even = group.total(row) == 0
                self.assertIs(row_can_come(orders, row), even)
                if even:
                    self.check(group, row)
                else:
                    self.raises(Uneven, row, tables_of, orders=orders, row=row)

    def test_drawn_rows(self):
        random = Random(15)
        for orders in [(6,), (7,), (8,), (2, 4), (2, 2, 2), (9,), (3, 3), (10,), (12,), (2, 6), (13,)]:
            group = Group(orders)
            for _ in range(30):
                self.check(group, group.even_row(random))
                few = [random.choice([0, group.size - 1]) for _ in range(group.size - 1)]
                self.check(group, few + [group.neg(group.total(few))])

    def test_forty_members(self):
        random = Random(16)
        for orders in [(40,), (2, 20), (2, 2, 10), (2, 2, 2, 5), (39,), (37,)]:
            group = Group(orders)
            rows = [group.even_row(random) for _ in range(3)] + [[0] * group.size]
            rows.append(group.differences(group.table(random), group.table(random)))
            rows.append([0] * (group.size - 2) + [1, group.neg(1)])
            with self.within_seconds():
                for row in rows:
                    self.gives(True, row_can_come, orders=orders, row=row)
                    self.check(group, row)

    def test_all_values_of_small_groups(self):
        for orders in [(2,), (3,)]:
            group = Group(orders)
            pairs = list(product(all_tables(group), repeat=2))
            for row in all_rows(group):
                for first, second in pairs:
                    wanted = group.differences(first, second) == row
                    self.assertIs(are_tables_of(orders, row, (first, second)), wanted)

    def test_any_value(self):
        first, second, row = [1, 2, 0], [0, 2, 1], [1, 0, 2]
        wrong = [(bad, second) for bad in wrong_tables(3)] + [(first, bad) for bad in wrong_tables(3)]
        self.judges(are_tables_of, [(first, second)], strange() + wrong + [
            [first, second], (first,), (first, second, first), (second, first), first, (first, first),
            ([1, 2, 0], [0, 1, 2]), ((first, second),)], orders=(3,), row=row)
        self.judges(are_tables_of, [], strange() + [(first, second), (first, first)], orders=(3,), row=[1, 0, 1])
        table = [0, 2, 1]
        self.judges(are_tables_of, [(table, table)], [(table, [0, 1, 2])], orders=(3,), row=[0, 0, 0])

    def test_errors(self):
        for function in (row_can_come, tables_of):
            self.refuses(function, {"orders": (3,), "row": [1, 1, 1]}, [ORDERS, ROW])
        self.refuses_first(are_tables_of, {"orders": (3,), "row": [1, 1, 1], "value": ([1, 2, 0], [0, 1, 2])}, [ORDERS, ROW])
        self.refuses_first(are_tables_of, {"orders": (3,), "row": [1, 1, 2], "value": None}, [ORDERS, ROW])


class NextTable(Case):
    def check(self, group, table, row):
        orders = group.orders
        found = self.run_it(next_table, orders=orders, table=table, row=row)
        self.same(sorted(found), list(range(group.size)))
        self.assertEqual(sorted(group.differences(table, found)), sorted(row))
        self.gives(True, is_next, orders=orders, table=table, row=row, value=found)
        found = self.run_it(next_by_sums, orders=orders, table=table, row=row)
        self.same(sorted(found), list(range(group.size)))
        self.assertEqual(sorted(group.sums(table, found)), sorted(row))
        self.gives(True, is_next_by_sums, orders=orders, table=table, row=row, value=found)

    def refused(self, group, table, row):
        self.raises(Uneven, row, next_table, orders=group.orders, table=table, row=row)
        self.raises(Uneven, row, next_by_sums, orders=group.orders, table=table, row=row)

    def test_every_row_of_small_groups(self):
        random = Random(17)
        for orders in SMALL + [(5,)]:
            group = Group(orders)
            for row in all_rows(group):
                tables = all_tables(group) if group.size < 4 else [group.table(random)]
                for table in tables:
                    if group.total(row) == 0:
                        self.check(group, table, row)
                    else:
                        self.refused(group, table, row)

    def test_forty_members(self):
        random = Random(18)
        for orders in [(40,), (2, 2, 10), (2, 20), (3, 13)]:
            group = Group(orders)
            with self.within_seconds():
                ones = [1] * (group.size - 1)
                for row in [group.even_row(random), [0] * group.size, ones + [group.neg(group.total(ones))]]:
                    self.check(group, group.table(random), row)

    def test_all_values_of_small_groups(self):
        random = Random(19)
        for orders in SMALL:
            group = Group(orders)
            tables = all_tables(group)
            rows = all_rows(group) if group.size < 4 else random.sample(all_rows(group), 20)
            rows = rows + [group.even_row(random) for _ in range(20)]
            for row in rows:
                table = group.table(random)
                for value in tables:
                    wanted = sorted(group.differences(table, value)) == sorted(row)
                    self.assertIs(is_next(orders, table, row, value), wanted)
                    wanted = sorted(group.sums(table, value)) == sorted(row)
                    self.assertIs(is_next_by_sums(orders, table, row, value), wanted)

    def test_any_value(self):
        up, down = [0, 1, 2], [0, 2, 1]
        self.judges(is_next, [down, [2, 1, 0], [1, 0, 2]], wrong_tables(3) + [up, (down, down), [down], tuple(down)],
                    orders=(3,), table=up, row=[2, 1, 0])
        self.judges(is_next_by_sums, [up], wrong_tables(3) + [down, tuple(up), [up]],
                    orders=(3,), table=up, row=[1, 2, 0])
        for function in (is_next, is_next_by_sums):
            self.judges(function, [], strange() + [up, down, [1, 2, 0], [2, 0, 1]], orders=(3,), table=up, row=[0, 0, 1])

    def test_errors(self):
        good = {"orders": (3,), "table": [2, 0, 1], "row": [1, 1, 1]}
        for function in (next_table, next_by_sums):
            self.refuses(function, good, [ORDERS, TABLE, ROW])
            for table in wrong_tables(3):
                self.raises(InvalidTable, table, function, orders=(3,), table=table, row=[0, 0, 1])
        for function in (is_next, is_next_by_sums):
            self.refuses_first(function, {**good, "value": [0, 1, 2]}, [ORDERS, TABLE, ROW])


class BySigns(Case):
    def test_every_row_of_small_groups(self):
        random = Random(20)
        for orders in SMALL:
            group = Group(orders)
            for table in all_tables(group) if group.size < 4 else [group.table(random) for _ in range(3)]:
                rows = {str(group.differences(table, value)): value for value in all_tables(group)}
                for row in all_rows(group):
                    self.same(by_signs(orders, table, row), rows.get(str(row)))

    def test_forty_members(self):
        random = Random(21)
        for orders in [(40,), (2, 2, 10)]:
            group = Group(orders)
            table, value = group.table(random), group.table(random)
            row = group.differences(table, value)
            with self.within_seconds():
                self.gives(value, by_signs, orders=orders, table=table, row=row)
                self.gives(None, by_signs, orders=orders, table=table, row=[0] * 39 + [1])
                self.gives(table, by_signs, orders=orders, table=table, row=[0] * 40)

    def test_none(self):
        self.gives(None, by_signs, orders=(4,), table=[0, 1, 2, 3], row=[0, 1, 1, 2])
        self.gives(None, by_signs, orders=(4,), table=[0, 1, 2, 3], row=[0, 0, 0, 1])
        self.gives([0, 2, 1, 3], by_signs, orders=(4,), table=[0, 1, 2, 3], row=[0, 3, 1, 0])

    def test_errors(self):
        self.refuses(by_signs, {"orders": (3,), "table": [2, 0, 1], "row": [0, 1, 1]}, [ORDERS, TABLE, ROW])


if __name__ == "__main__":
    unittest.main()

"""[6]: orders and members."""

import unittest
from itertools import permutations, product
from random import Random

from checkwright.errors import InvalidMember, InvalidNumber, InvalidOrders, InvalidRow
from checkwright.groups import (
    added, are_orders, figures, is_member, member_of, opposite, order_of, same_group, size, total_of,
)
from tests.helper import Case, Group, strange, wrong_members, wrong_orders

SMALL = [(2,), (3,), (4,), (2, 2), (5,), (6,), (2, 3), (3, 2), (7,), (8,), (2, 4), (4, 2), (2, 2, 2), (9,), (3, 3)]
BIG = [(40,), (2, 20), (20, 2), (2, 2, 10), (2, 2, 2, 5), (5, 8), (4, 10), (37,), (6, 6), (2, 3, 5)]
LONG = [(10 ** 30 - 1,), (10 ** 29 + 7, 2, 10 ** 28), (2, 10 ** 29, 3), (2,) * 90]


class Orders(Case):
    def test_are_orders(self):
        self.judges(are_orders, SMALL + BIG + LONG + [(2,) * 50], wrong_orders())

    def test_size(self):
        for orders, many in [((2,), 2), ((2, 5), 10), ((2, 2, 10), 40), ((3, 4, 5), 60), ((7,), 7)]:
            self.gives(many, size, orders=orders)
        self.gives(2 ** 90, size, orders=(2,) * 90)
        self.gives((10 ** 30 - 1) * (10 ** 30 - 1), size, orders=(10 ** 30 - 1, 10 ** 30 - 1))
        self.refuses(size, {"orders": (2,)}, [("orders", InvalidOrders, wrong_orders())])

    def test_is_member(self):
        for orders in SMALL + BIG:
            many = Group(orders).size
            self.judges(is_member, range(many), wrong_members(many), orders=orders)
        self.judges(is_member, [0, 10 ** 30 - 2], [10 ** 30 - 1, -1], orders=(10 ** 30 - 1,))
        self.refuses_first(is_member, {"orders": (3,), "value": 1}, [("orders", InvalidOrders, wrong_orders())])


class Figures(Case):
    def test_there_and_back(self):
        for orders in SMALL + BIG:
            group = Group(orders)
            for member, told in enumerate(group.told):
                self.gives(told, figures, orders=orders, member=member)
                self.gives(member, member_of, orders=orders, told=told)

    def test_long_ones(self):
        orders = (10 ** 29 + 7, 2, 10 ** 28)
        told = (10 ** 29 + 6, 1, 10 ** 28 - 1)
        most = (10 ** 29 + 7) * 2 * 10 ** 28 - 1
        self.gives(most, member_of, orders=orders, told=told)
        self.gives(told, figures, orders=orders, member=most)
        self.gives((0, 0, 5), figures, orders=orders, member=5)
        self.gives((0, 1, 5), figures, orders=orders, member=10 ** 28 + 5)
        self.gives((3, 0, 5), figures, orders=orders, member=6 * 10 ** 28 + 5)

    def test_errors(self):
        self.refuses(figures, {"orders": (2, 5), "member": 8}, [
            ("orders", InvalidOrders, wrong_orders()), ("member", InvalidMember, wrong_members(10))])
        self.refuses(member_of, {"orders": (2, 5), "told": (1, 3)}, [
            ("orders", InvalidOrders, wrong_orders()),
            ("told", InvalidNumber, strange() + [
                8, [1, 3], (1,), (3,), (1, 3, 0), (2, 0), (0, 5), (1, -1), (-1, 0), (True, 3), (1, False), (1, None),
                ("1", 3), (1, (3,)), ((1, 3),), "13", (0, 10 ** 29)])])
        self.refuses(member_of, {"orders": (3,), "told": (2,)}, [
            ("orders", InvalidOrders, wrong_orders()), ("told", InvalidNumber, strange() + [2, (3,), (2, 0), [2], (True,)])])


class Adding(Case):
    def test_added_and_opposite(self):
        for orders in SMALL + [(40,), (2, 2, 10), (2, 3, 5)]:
            group = Group(orders)
            for member in range(group.size):
                self.gives(group.neg(member), opposite, orders=orders, member=member)
                self.assertEqual(added(orders, member, opposite(orders, member)), 0)
                for other in range(group.size):
                    self.assertEqual(added(orders, member, other), group.add(member, other))
        self.gives(2, added, orders=(2, 5), member=8, other=9)
        self.gives(7, added, orders=(2, 5), member=8, other=4)
        self.gives(7, added, orders=(10,), member=8, other=9)

    def test_long_ones(self):
        most = 10 ** 30 - 1
        self.gives(most - 3, added, orders=(most,), member=most - 1, other=most - 2)
        self.gives(1, opposite, orders=(most,), member=most - 1)
        self.gives(0, opposite, orders=(most,), member=0)
        self.gives(0, added, orders=(2,) * 90, member=2 ** 90 - 1, other=2 ** 90 - 1)
        self.gives(2 ** 90 - 1, opposite, orders=(2,) * 90, member=2 ** 90 - 1)

    def test_total_of(self):
        random = Random(6)
        for orders in SMALL + BIG:
            group = Group(orders)
            for length in (0, 1, 2, group.size, 3 * group.size):
                row = [random.randrange(group.size) for _ in range(length)]
                self.gives(group.total(row), total_of, orders=orders, row=row)
        self.gives(0, total_of, orders=(4,), row=[])
        self.gives(999999, total_of, orders=(10 ** 30 - 1,), row=[10 ** 30 - 2, 10 ** 6])

    def test_errors(self):
        wrong = wrong_members(10)
        self.refuses(added, {"orders": (2, 5), "member": 8, "other": 9}, [
            ("orders", InvalidOrders, wrong_orders()), ("member", InvalidMember, wrong), ("other", InvalidMember, wrong)])
        self.refuses(opposite, {"orders": (2, 5), "member": 8}, [
            ("orders", InvalidOrders, wrong_orders()), ("member", InvalidMember, wrong)])
        self.refuses(total_of, {"orders": (3,), "row": [1, 2]}, [
            ("orders", InvalidOrders, wrong_orders()),
            ("row", InvalidRow, strange() + [
                1, (0,), (1, 2), [3], [-1], [1, 3], [True], [0, False], [0, None], [[0]], ["0"], {1: 1}, "12", [(0,)]])])


class OrderOf(Case):
    def test_small_ones(self):
        for orders in SMALL + BIG:
            group = Group(orders)
            for member in range(group.size):
                times, total = 1, member
                while total != 0:
                    times, total = times + 1, group.add(total, member)
                self.gives(times, order_of, orders=orders, member=member)

    def test_long_ones(self):
        self.gives(10 ** 29, order_of, orders=(10 ** 29,), member=1)
        self.gives(5, order_of, orders=(10 ** 29,), member=6 * 10 ** 28)
        self.gives(3 * 10 ** 29, order_of, orders=(2, 10 ** 29, 3), member=3 + 1)
        self.gives(1, order_of, orders=(10 ** 30 - 1, 10 ** 30 - 1), member=0)

    def test_errors(self):
        self.refuses(order_of, {"orders": (2, 5), "member": 8}, [
            ("orders", InvalidOrders, wrong_orders()), ("member", InvalidMember, wrong_members(10))])


class SameGroup(Case):
    def test_by_all_tables(self):
        told = [(2,), (3,), (4,), (2, 2), (5,), (6,), (2, 3), (3, 2)]
        for orders, other in product(told, repeat=2):
            self.gives(self.has_way(Group(orders), Group(other)), same_group, orders=orders, other=other)

    def has_way(self, group, other):
        if group.size != other.size:
            return False
        pairs = list(product(range(group.size), repeat=2))
        return any(
            all(way[group.add(a, b)] == other.add(way[a], way[b]) for a, b in pairs)
            for way in permutations(range(other.size))
        )

    def test_by_powers_of_primes(self):
        told = [(36,), (4, 9), (6, 6), (2, 18), (2, 2, 9), (3, 12), (2, 2, 3, 3), (9, 4), (18, 2), (12, 3), (3, 3, 4)]
        told = told + [(40,), (5, 8), (2, 20), (4, 10), (2, 4, 5), (2, 2, 10), (2, 2, 2, 5), (10, 4), (16,), (4, 4), (2, 8)]
        for orders, other in product(told, repeat=2):
            self.gives(self.powers(orders) == self.powers(other), same_group, orders=orders, other=other)

    def powers(self, orders):
        """How many of the orders each power of a prime divides."""
        return [sum(order % power == 0 for order in orders) for power in (2, 4, 8, 16, 32, 3, 9, 27, 5, 25, 7)]

    def test_long_ones(self):
        one, two = 2 ** 89 - 1, 2 ** 61 - 1
        with self.within_seconds():
            self.gives(True, same_group, orders=(one,), other=(one,))
            self.gives(False, same_group, orders=(one,), other=(two,))
            self.gives(True, same_group, orders=(two, one), other=(two * one,))
            self.gives(True, same_group, orders=(10 ** 29, 10 ** 29 + 1), other=(10 ** 29 * (10 ** 29 + 1),))
            self.gives(False, same_group, orders=(10 ** 15, 10 ** 14), other=(10 ** 29,))
            self.gives(True, same_group, orders=(2 ** 29, 5 ** 29), other=(10 ** 29,))

    def test_errors(self):
        self.refuses(same_group, {"orders": (2, 5), "other": (10,)}, [
            ("orders", InvalidOrders, wrong_orders()), ("other", InvalidOrders, wrong_orders())])


if __name__ == "__main__":
    unittest.main()
